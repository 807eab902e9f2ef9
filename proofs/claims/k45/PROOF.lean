import PyProof.Rows.All
import Wide.All
import OpenK.AllK
import Wide.FinOn
import HandS.Base
import HandS.Call
import HandS.List
import HandS.Comp
import HandS.Dict
import HandS.Iter
import HandS.Ends
import HandS.Words
import HandS.More
import HandS.Wide
import HandS.TupAny
import HandS.IsInst
import HandS.Zip
import HandS.Flow
import HandS.ForMost
import HandS.NoneIn
import HandS.SortInts
import PyProof.ReprRoads
import PyProof.ReprLen
import HandS.Text
import HandS.StrMore
import HandS.Style
import HandS.TupLe
import HandS.DictComp
import HandS.Small
import HandS.ExcIs
import HandS.WordsExc
import HandS.ExcOwn
import PyProof.ExcBaseAll.ArithmeticError
import PyProof.ExcBaseAll.ValueError
import KE.KExcInit
import HandS.ExcInit
import KE.KExcIs
import HandS.Walk
import HandS.ListItems
import HandS.Sort
import HandS.SetFor
import HandS.TryOnly
import PyProof.StrBlock2
import PyProof.StrLawsRepr
import HandS.Style
import KE.RegKIsAll
import KE.RegKTryMore
import KE.KExcLine
import HandS.IsInst
import PySem.Challenge.RW_dialroad_k45_texts_refused
set_option Elab.async false
set_option linter.all false
set_option maxRecDepth 100000
set_option maxHeartbeats 4000000
set_option exponentiation.threshold 500
/-! Polynomials as lists of pairs (exponent, coefficient): what they are worth, and when two of them are one. -/
namespace DR
abbrev Pol := List (Int × Int)
/-- the sum of the coefficients at e -/
def cf : Pol → Int → Int
  | [], _ => 0
  | t :: r, e => (if t.1 = e then t.2 else 0) + cf r e
theorem cf_nil (e : Int) : cf [] e = 0 := rfl
theorem cf_cons (t : Int × Int) (r : Pol) (e : Int) : cf (t :: r) e = (if t.1 = e then t.2 else 0) + cf r e := rfl
theorem cf_append : ∀ (f g : Pol) (e : Int), cf (f ++ g) e = cf f e + cf g e
  | [], g, e => by simp [cf]
  | t :: r, g, e => by
    rw [List.cons_append, cf_cons, cf_cons, cf_append r g e]
    omega
theorem cf_none : ∀ (f : Pol) (e : Int), (∀ t ∈ f, t.1 ≠ e) → cf f e = 0
  | [], _, _ => rfl
  | t :: r, e, h => by
    rw [cf_cons, if_neg (h t List.mem_cons_self), cf_none r e fun u hu => h u (List.mem_cons_of_mem _ hu)]
    rfl
theorem cf_ne {f : Pol} {e : Int} (h : cf f e ≠ 0) : ∃ t ∈ f, t.1 = e := by
  refine Classical.byContradiction fun q => h (cf_none f e fun t ht z => q ⟨t, ht, z⟩)
/-- canonical: ascending, coefficients from 1 to p - 1, worth F modulo p -/
structure Nf (p : Int) (g : Pol) (F : Int → Int) : Prop where
  asc : g.Pairwise fun x y => x.1 < y.1
  rng : ∀ t ∈ g, 0 < t.2 ∧ t.2 < p
  cof : ∀ e, cf g e = F e % p
theorem cf_head {t : Int × Int} {r : Pol} (h : (t :: r).Pairwise fun x y => x.1 < y.1) : cf (t :: r) t.1 = t.2 := by
  rw [cf_cons, if_pos rfl, cf_none r t.1 fun u hu z => ?_]
  · omega
  · have := (List.pairwise_cons.mp h).1 u hu
    omega
theorem asc_le {t : Int × Int} {r : Pol} (h : (t :: r).Pairwise fun x y => x.1 < y.1) {u : Int × Int} (hu : u ∈ t :: r) : t.1 ≤ u.1 := by
  rcases List.mem_cons.mp hu with e | e
  · rw [e]
    exact Int.le_refl _
  · exact Int.le_of_lt ((List.pairwise_cons.mp h).1 u e)
theorem cf_mem : ∀ {g : Pol}, (g.Pairwise fun x y => x.1 < y.1) → ∀ t ∈ g, cf g t.1 = t.2
  | [], _, t, h => absurd h List.not_mem_nil
  | u :: r, hp, t, h => by
    rcases List.mem_cons.mp h with e | e
    · rw [e]
      exact cf_head hp
    · have hlt := (List.pairwise_cons.mp hp).1 t e
      rw [cf_cons, if_neg (by omega), cf_mem (List.pairwise_cons.mp hp).2 t e]
      omega
theorem asc_ext : ∀ {g g' : Pol}, (g.Pairwise fun x y => x.1 < y.1) → (g'.Pairwise fun x y => x.1 < y.1) → (∀ t ∈ g, t.2 ≠ 0) → (∀ t ∈ g', t.2 ≠ 0) → (∀ e, cf g e = cf g' e) → g = g'
  | [], [], _, _, _, _, _ => rfl
  | [], u :: s, _, h', _, n', c => by
    have := c u.1
    rw [cf_head h'] at this
    exact absurd this.symm (n' u List.mem_cons_self)
  | t :: r, [], h, _, n, _, c => by
    have := c t.1
    rw [cf_head h] at this
    exact absurd this (n t List.mem_cons_self)
  | t :: r, u :: s, h, h', n, n', c => by
    have a1 : t.1 = u.1 := by
      have e1 := c t.1
      rw [cf_head h] at e1
      obtain ⟨x, hx, ex⟩ := cf_ne (f := u :: s) (e := t.1) (by rw [← e1]; exact n t List.mem_cons_self)
      have e2 := c u.1
      rw [cf_head h'] at e2
      obtain ⟨y, hy, ey⟩ := cf_ne (f := t :: r) (e := u.1) (by rw [e2]; exact n' u List.mem_cons_self)
      have l1 := asc_le h' hx
      have l2 := asc_le h hy
      omega
    have a2 : t.2 = u.2 := by
      have e1 := c t.1
      rw [cf_head h, a1, cf_head h'] at e1
      exact e1
    have e : t = u := Prod.ext a1 a2
    subst e
    congr 1
    refine asc_ext (List.pairwise_cons.mp h).2 (List.pairwise_cons.mp h').2 (fun x hx => n x (List.mem_cons_of_mem _ hx)) (fun x hx => n' x (List.mem_cons_of_mem _ hx)) fun e => ?_
    have := c e
    rw [cf_cons, cf_cons] at this
    omega
theorem Nf.uniq {p : Int} {g g' : Pol} {F F' : Int → Int} (a : Nf p g F) (b : Nf p g' F') (h : ∀ e, F e % p = F' e % p) : g = g' :=
  asc_ext a.asc b.asc (fun t ht => by have := a.rng t ht; omega) (fun t ht => by have := b.rng t ht; omega) fun e => by rw [a.cof, b.cof, h]
theorem Nf.to {p : Int} {g : Pol} {F F' : Int → Int} (a : Nf p g F) (h : ∀ e, F e % p = F' e % p) : Nf p g F' := ⟨a.asc, a.rng, fun e => by rw [a.cof, h]⟩
theorem Nf.self {p : Int} {g : Pol} {F : Int → Int} (a : Nf p g F) : Nf p g (cf g) := a.to fun e => by rw [a.cof, Int.emod_emod]
/-- every exponent of g is one of f's, where g is worth nothing where f has no exponent -/
theorem Nf.sub {p : Int} {g : Pol} {F : Int → Int} (a : Nf p g F) {L : List Int} (h : ∀ e, e ∉ L → F e % p = 0) : ∀ t ∈ g, t.1 ∈ L := fun t ht => by
  refine Classical.byContradiction fun n => ?_
  have e1 := a.cof t.1
  rw [cf_mem a.asc t ht, h _ n] at e1
  have := (a.rng t ht).1
  omega
theorem nd_len : ∀ {L M : List Int}, L.Nodup → (∀ x ∈ L, x ∈ M) → L.length ≤ M.length
  | [], M, _, _ => Nat.zero_le _
  | x :: L, M, h, s => by
    have hx : x ∈ M := s x List.mem_cons_self
    have n := (List.nodup_cons.mp h)
    have := nd_len (L := L) (M := M.erase x) n.2 fun y hy => by
      have hne : y ≠ x := fun e => n.1 (e ▸ hy)
      exact (List.mem_erase_of_ne hne).mpr (s y (List.mem_cons_of_mem _ hy))
    rw [List.length_erase_of_mem hx] at this
    have hp : 0 < M.length := List.length_pos_of_mem hx
    rw [List.length_cons]
    omega
theorem asc_nodup {g : Pol} (h : g.Pairwise fun x y => x.1 < y.1) : (g.map (·.1)).Nodup := by
  rw [List.nodup_iff_pairwise_ne, List.pairwise_map]
  exact h.imp fun q => by omega
theorem Nf.len {p : Int} {g : Pol} {F : Int → Int} (a : Nf p g F) {L : List Int} (h : ∀ e, e ∉ L → F e % p = 0) : g.length ≤ L.length := by
  have := nd_len (asc_nodup a.asc) (M := L) fun x hx => by
    obtain ⟨t, ht, rfl⟩ := List.mem_map.mp hx
    exact a.sub h t ht
  rw [List.length_map] at this
  exact this
theorem cf_out {f : Pol} {e : Int} (h : e ∉ f.map (·.1)) : cf f e = 0 := cf_none f e fun t ht z => h (z ▸ List.mem_map_of_mem ht)
/-! a dict of ints, by its pairs -/
def put : Pol → Int → Int → Pol
  | [], e, v => [(e, v)]
  | t :: r, e, v => if t.1 = e then (e, v) :: r else t :: put r e v
theorem put_keys : ∀ (m : Pol) (e v x : Int), x ∈ (put m e v).map (·.1) → x = e ∨ x ∈ m.map (·.1)
  | [], e, v, x, h => by
    have : x = e := by simpa [put] using h
    exact .inl this
  | t :: r, e, v, x, h => by
    unfold put at h
    split at h
    · rename_i q
      rcases List.mem_cons.mp h with z | z
      · exact .inl z
      · exact .inr (List.mem_cons_of_mem _ z)
    · rcases List.mem_cons.mp h with z | z
      · exact .inr (by rw [z]; exact List.mem_cons_self)
      · rcases put_keys r e v x z with w | w
        · exact .inl w
        · exact .inr (List.mem_cons_of_mem _ w)
theorem put_nodup : ∀ (m : Pol) (e v : Int), (m.map (·.1)).Nodup → ((put m e v).map (·.1)).Nodup
  | [], e, v, _ => by simp [put]
  | t :: r, e, v, h => by
    have h' : (t.1 :: r.map (·.1)).Nodup := h
    have n := List.nodup_cons.mp h'
    unfold put
    split
    · rename_i q
      show (e :: r.map (·.1)).Nodup
      rw [← q]
      exact h'
    · rename_i q
      show (t.1 :: (put r e v).map (·.1)).Nodup
      refine List.nodup_cons.mpr ⟨fun z => ?_, put_nodup r e v n.2⟩
      rcases put_keys r e v t.1 z with w | w
      · exact q w
      · exact n.1 w
theorem put_cf : ∀ (m : Pol) (e v x : Int), (m.map (·.1)).Nodup → cf (put m e v) x = if x = e then v else cf m x
  | [], e, v, x, _ => by
    show (if e = x then v else 0) + 0 = _
    by_cases q : x = e
    · rw [if_pos q, if_pos q.symm]
      omega
    · rw [if_neg q, if_neg (fun z => q z.symm)]
      rfl
  | t :: r, e, v, x, h => by
    have h' : (t.1 :: r.map (·.1)).Nodup := h
    have n := List.nodup_cons.mp h'
    unfold put
    split
    · rename_i q
      rw [cf_cons, cf_cons]
      by_cases z : x = e
      · rw [if_pos z, if_pos z.symm, cf_out (f := r) (e := x) (by rw [z, ← q]; exact n.1)]
        omega
      · rw [if_neg z, if_neg (fun w => z w.symm), if_neg (fun w => z (w.symm.trans q))]
    · rename_i q
      rw [cf_cons, cf_cons, put_cf r e v x n.2]
      by_cases z : x = e
      · rw [if_pos z, if_pos z, if_neg (by omega)]
        omega
      · rw [if_neg z, if_neg z]
theorem put_len : ∀ (m : Pol) (e v : Int), (put m e v).length ≤ m.length + 1
  | [], _, _ => Nat.le_refl _
  | t :: r, e, v => by
    unfold put
    split
    · exact Nat.le_succ _
    · have := put_len r e v
      rw [List.length_cons, List.length_cons]
      omega
/-! what the sorted keys give -/
def kept (p : Int) (F : Int → Int) (ys : List Int) : Pol := (ys.filter fun e => decide (F e % p ≠ 0)).map fun e => (e, F e % p)
theorem kept_nil (p : Int) (F : Int → Int) : kept p F [] = [] := rfl
theorem kept_snoc (p : Int) (F : Int → Int) (ys : List Int) (e : Int) : kept p F (ys ++ [e]) = kept p F ys ++ (if F e % p ≠ 0 then [(e, F e % p)] else []) := by
  unfold kept
  rw [List.filter_append, List.map_append]
  congr 1
  by_cases h : F e % p ≠ 0
  · rw [if_pos h]
    simp [h]
  · rw [if_neg h]
    have : F e % p = 0 := Classical.byContradiction h
    simp [this]
theorem kept_cf (p : Int) (F : Int → Int) : ∀ (ys : List Int) (x : Int), ys.Nodup → cf (kept p F ys) x = if x ∈ ys then F x % p else 0
  | [], x, _ => by simp [kept, cf]
  | y :: r, x, h => by
    have n := List.nodup_cons.mp h
    have ih := kept_cf p F r x n.2
    have e : kept p F (y :: r) = (if F y % p ≠ 0 then [(y, F y % p)] else []) ++ kept p F r := by
      unfold kept
      rw [List.filter_cons]
      by_cases q : F y % p ≠ 0
      · simp [q]
      · have : F y % p = 0 := Classical.byContradiction q
        simp [this]
    rw [e, cf_append, ih]
    by_cases z : x = y
    · subst z
      rw [if_neg n.1, if_pos List.mem_cons_self]
      by_cases q : F x % p ≠ 0
      · rw [if_pos q]
        simp [cf]
      · rw [if_neg q]
        have : F x % p = 0 := Classical.byContradiction q
        rw [this]
        rfl
    · have : cf (if F y % p ≠ 0 then [(y, F y % p)] else []) x = 0 := by
        refine cf_none _ _ fun t ht w => ?_
        split at ht
        · have : t = (y, F y % p) := by simpa using ht
          rw [this] at w
          exact z w.symm
        · cases ht
      rw [this]
      by_cases q : x ∈ r
      · rw [if_pos q, if_pos (List.mem_cons_of_mem _ q)]
        omega
      · rw [if_neg q, if_neg (fun w => (List.mem_cons.mp w).elim z q)]
        rfl
theorem le_nd_lt : ∀ {ys : List Int}, ys.Pairwise (· ≤ ·) → ys.Nodup → ys.Pairwise (· < ·)
  | [], _, _ => .nil
  | y :: r, h, n => by
    have a := List.pairwise_cons.mp h
    have b := List.nodup_cons.mp n
    refine List.pairwise_cons.mpr ⟨fun z hz => ?_, le_nd_lt a.2 b.2⟩
    have := a.1 z hz
    have : y ≠ z := fun q => b.1 (q ▸ hz)
    omega
theorem kept_nf {p : Int} {F : Int → Int} {ys : List Int} (hp : 0 < p) (h : ys.Pairwise (· ≤ ·)) (n : ys.Nodup) (z : ∀ e, e ∉ ys → F e % p = 0) : Nf p (kept p F ys) F := by
  refine ⟨?_, fun t ht => ?_, fun e => ?_⟩
  · unfold kept
    rw [List.pairwise_map]
    exact (le_nd_lt h n).sublist List.filter_sublist
  · unfold kept at ht
    obtain ⟨e, he, rfl⟩ := List.mem_map.mp ht
    have q := of_decide_eq_true (List.mem_filter.mp he).2
    have h1 := Int.emod_nonneg (F e) (show p ≠ 0 by omega)
    have h2 := Int.emod_lt_of_pos (F e) hp
    exact ⟨by show 0 < F e % p; omega, h2⟩
  · rw [kept_cf p F ys e n]
    by_cases q : e ∈ ys
    · rw [if_pos q]
    · rw [if_neg q, z e q]
theorem kept_len (p : Int) (F : Int → Int) (ys : List Int) : (kept p F ys).length ≤ ys.length := by
  unfold kept
  rw [List.length_map]
  exact List.length_filter_le _ _
/-! the sums that the functions make -/
theorem cf_scale (k : Int) : ∀ (f : Pol) (e : Int), cf (f.map fun t => (t.1, t.2 * k)) e = cf f e * k
  | [], e => by simp [cf]
  | t :: r, e => by
    rw [List.map_cons, cf_cons, cf_cons, cf_scale k r e, Int.add_mul]
    show (if t.1 = e then t.2 * k else 0) + _ = _
    by_cases h : t.1 = e
    · rw [if_pos h, if_pos h]
    · rw [if_neg h, if_neg h, Int.zero_mul]
def moved (n : Int) (f : Pol) : Pol := f.map fun t => (t.1 + n, t.2)
theorem cf_moved (n : Int) : ∀ (f : Pol) (e : Int), cf (moved n f) e = cf f (e - n)
  | [], e => rfl
  | t :: r, e => by
    show (if t.1 + n = e then t.2 else 0) + cf (moved n r) e = (if t.1 = e - n then t.2 else 0) + cf r (e - n)
    rw [cf_moved n r e]
    by_cases h : t.1 + n = e
    · rw [if_pos h, if_pos (by omega)]
    · rw [if_neg h, if_neg (by omega)]
theorem Nf.moved {p : Int} {g : Pol} {F : Int → Int} (a : Nf p g F) (n : Int) : Nf p (moved n g) (fun e => F (e - n)) := by
  refine ⟨?_, fun t ht => ?_, fun e => by rw [cf_moved, a.cof]⟩
  · unfold DR.moved
    rw [List.pairwise_map]
    exact a.asc.imp fun q => by omega
  · obtain ⟨u, hu, rfl⟩ := List.mem_map.mp (show t ∈ g.map fun t => (t.1 + n, t.2) from ht)
    exact a.rng u hu
/-- 1 at 0, s, .., (n - 1) * s -/
def rounds (n : Nat) (s : Int) : Pol := (List.range n).map fun (m : Nat) => ((m : Int) * s, (1 : Int))
/-- a term times a polynomial; all products of two terms -/
def times (t : Int × Int) (g : Pol) : Pol := g.map fun u => (t.1 + u.1, t.2 * u.2)
def prods (f g : Pol) : Pol := f.flatMap fun t => times t g
theorem prods_nil (g : Pol) : prods [] g = [] := rfl
theorem prods_snoc (f g : Pol) (t : Int × Int) : prods (f ++ [t]) g = prods f g ++ times t g := by
  unfold prods
  rw [List.flatMap_append]
  simp
theorem times_len (t : Int × Int) (g : Pol) : (times t g).length = g.length := by
  unfold times
  rw [List.length_map]
theorem prods_len : ∀ f g : Pol, (prods f g).length = f.length * g.length
  | [], g => by simp [prods]
  | t :: r, g => by
    show (times t g ++ prods r g).length = _
    rw [List.length_append, times_len, prods_len r g, List.length_cons, Nat.add_mul, Nat.one_mul, Nat.add_comm]
theorem prods_mem {f g : Pol} {x : Int × Int} (h : x ∈ prods f g) : ∃ t ∈ f, ∃ u ∈ g, x = (t.1 + u.1, t.2 * u.2) := by
  obtain ⟨t, ht, hx⟩ := List.mem_flatMap.mp h
  obtain ⟨u, hu, rfl⟩ := List.mem_map.mp (show x ∈ g.map fun u => (t.1 + u.1, t.2 * u.2) from hx)
  exact ⟨t, ht, u, hu, rfl⟩
end DR
/-! Products of polynomials: a ring without divisors of zero, modulo a prime. -/
namespace DR
/-- what the products of two polynomials are worth at e -/
def conv : Pol → (Int → Int) → Int → Int
  | [], _, _ => 0
  | t :: r, G, e => t.2 * G (e - t.1) + conv r G e
theorem cf_times (t : Int × Int) : ∀ (g : Pol) (e : Int), cf (times t g) e = t.2 * cf g (e - t.1)
  | [], e => by simp [times, cf]
  | u :: r, e => by
    show (if t.1 + u.1 = e then t.2 * u.2 else 0) + cf (times t r) e = t.2 * ((if u.1 = e - t.1 then u.2 else 0) + cf r (e - t.1))
    rw [cf_times t r e, Int.mul_add]
    by_cases h : t.1 + u.1 = e
    · rw [if_pos h, if_pos (by omega)]
    · rw [if_neg h, if_neg (by omega), Int.mul_zero]
theorem cf_prods : ∀ (f g : Pol) (e : Int), cf (prods f g) e = conv f (cf g) e
  | [], g, e => rfl
  | t :: r, g, e => by
    show cf (times t g ++ prods r g) e = _
    rw [cf_append, cf_times, cf_prods r g e]
    rfl
theorem conv_add (G G' : Int → Int) : ∀ (f : Pol) (e : Int), conv f (fun x => G x + G' x) e = conv f G e + conv f G' e
  | [], e => rfl
  | t :: r, e => by
    show t.2 * (G (e - t.1) + G' (e - t.1)) + conv r _ e = (t.2 * G (e - t.1) + conv r G e) + (t.2 * G' (e - t.1) + conv r G' e)
    rw [conv_add G G' r e, Int.mul_add]
    omega
theorem conv_congr {G G' : Int → Int} (h : ∀ x, G x = G' x) : ∀ (f : Pol) (e : Int), conv f G e = conv f G' e
  | [], e => rfl
  | t :: r, e => by
    show t.2 * G (e - t.1) + conv r G e = t.2 * G' (e - t.1) + conv r G' e
    rw [h, conv_congr h r e]
theorem conv_mod {p : Int} {G G' : Int → Int} (h : ∀ x, G x % p = G' x % p) : ∀ (f : Pol) (e : Int), conv f G e % p = conv f G' e % p
  | [], e => rfl
  | t :: r, e => by
    show (t.2 * G (e - t.1) + conv r G e) % p = (t.2 * G' (e - t.1) + conv r G' e) % p
    rw [Int.add_emod, Int.mul_emod, h, conv_mod h r e, ← Int.mul_emod, ← Int.add_emod]
theorem conv_smul (k : Int) (G : Int → Int) : ∀ (f : Pol) (e : Int), conv f (fun x => k * G x) e = k * conv f G e
  | [], e => by show (0 : Int) = k * 0; rw [Int.mul_zero]
  | t :: r, e => by
    show t.2 * (k * G (e - t.1)) + conv r _ e = k * (t.2 * G (e - t.1) + conv r G e)
    rw [conv_smul k G r e, Int.mul_add, Int.mul_left_comm]
/-- a single term added on the right -/
theorem conv_snd (u : Int × Int) (G : Int → Int) (f : Pol) (e : Int) : conv f (fun x => (if u.1 = x then u.2 else 0) + G x) e = u.2 * cf f (e - u.1) + conv f G e := by
  rw [conv_add]
  congr 1
  induction f with
  | nil => show (0 : Int) = u.2 * 0; rw [Int.mul_zero]
  | cons t r ih =>
    show t.2 * (if u.1 = e - t.1 then u.2 else 0) + conv r _ e = u.2 * ((if t.1 = e - u.1 then t.2 else 0) + cf r (e - u.1))
    rw [ih, Int.mul_add]
    by_cases h : u.1 = e - t.1
    · rw [if_pos h, if_pos (by omega), Int.mul_comm]
    · rw [if_neg h, if_neg (by omega), Int.mul_zero, Int.mul_zero]
theorem conv_zero : ∀ (f : Pol) (e : Int), conv f (fun _ => 0) e = 0
  | [], e => rfl
  | t :: r, e => by
    show t.2 * 0 + conv r _ e = 0
    rw [conv_zero r e, Int.mul_zero]
    rfl
/-- both ways about -/
theorem conv_comm : ∀ (g f : Pol) (e : Int), conv f (cf g) e = conv g (cf f) e
  | [], f, e => (conv_congr (G' := fun _ => 0) (fun _ => rfl) f e).trans (conv_zero f e)
  | u :: r, f, e => by
    show conv f (fun x => (if u.1 = x then u.2 else 0) + cf r x) e = u.2 * cf f (e - u.1) + conv r (cf f) e
    rw [conv_snd, conv_comm r f e]
/-- f counts by its worth alone, modulo p -/
theorem conv_fst {p : Int} {f f' : Pol} (h : ∀ x, cf f x % p = cf f' x % p) (g : Pol) (e : Int) : conv f (cf g) e % p = conv f' (cf g) e % p := by
  rw [conv_comm g f, conv_comm g f', conv_mod h g e]
theorem conv_append : ∀ (f f' : Pol) (G : Int → Int) (e : Int), conv (f ++ f') G e = conv f G e + conv f' G e
  | [], f', G, e => by show conv f' G e = 0 + conv f' G e; rw [Int.zero_add]
  | t :: r, f', G, e => by
    show t.2 * G (e - t.1) + conv (r ++ f') G e = (t.2 * G (e - t.1) + conv r G e) + conv f' G e
    rw [conv_append r f' G e]
    omega
theorem conv_times (t : Int × Int) (G : Int → Int) : ∀ (g : Pol) (e : Int), conv (times t g) G e = t.2 * conv g G (e - t.1)
  | [], e => by show (0 : Int) = t.2 * 0; rw [Int.mul_zero]
  | u :: r, e => by
    show (t.2 * u.2) * G (e - (t.1 + u.1)) + conv (times t r) G e = t.2 * (u.2 * G (e - t.1 - u.1) + conv r G (e - t.1))
    rw [conv_times t G r e, Int.mul_add, Int.mul_assoc, show e - (t.1 + u.1) = e - t.1 - u.1 by omega]
theorem conv_assoc : ∀ (f g : Pol) (G : Int → Int) (e : Int), conv (prods f g) G e = conv f (conv g G) e
  | [], g, G, e => rfl
  | t :: r, g, G, e => by
    show conv (times t g ++ prods r g) G e = t.2 * conv g G (e - t.1) + conv r (conv g G) e
    rw [conv_append, conv_times, conv_assoc r g G e]
theorem conv_moved (n : Int) (G : Int → Int) : ∀ (f : Pol) (e : Int), conv (moved n f) G e = conv f G (e - n)
  | [], e => rfl
  | t :: r, e => by
    show t.2 * G (e - (t.1 + n)) + conv (moved n r) G e = t.2 * G (e - n - t.1) + conv r G (e - n)
    rw [conv_moved n G r e, show e - (t.1 + n) = e - n - t.1 by omega]
theorem mul_emod_l (a b p : Int) : a % p * b % p = a * b % p := by rw [Int.mul_emod, Int.emod_emod, ← Int.mul_emod]
theorem add_emod_l (a b p : Int) : (a % p + b) % p = (a + b) % p := Int.emod_add_emod a p b
theorem sub_mod_eq {a b p : Int} (h : (a - b) % p = 0) : a % p = b % p := by
  have : a = b + (a - b) := by omega
  rw [this, Int.add_emod, h, Int.add_zero, Int.emod_emod]
/-- the least exponents' term of a product -/
theorem conv_least {t u : Int × Int} {r s : Pol} (h : (t :: r).Pairwise fun x y => x.1 < y.1) (h' : (u :: s).Pairwise fun x y => x.1 < y.1) : conv (t :: r) (cf (u :: s)) (t.1 + u.1) = t.2 * u.2 := by
  show t.2 * cf (u :: s) (t.1 + u.1 - t.1) + conv r (cf (u :: s)) (t.1 + u.1) = t.2 * u.2
  rw [show t.1 + u.1 - t.1 = u.1 by omega, cf_head h']
  have : ∀ r : Pol, (∀ x ∈ r, t.1 < x.1) → conv r (cf (u :: s)) (t.1 + u.1) = 0 := by
    intro r
    induction r with
    | nil => intro _; rfl
    | cons x r ih =>
      intro hx
      show x.2 * cf (u :: s) (t.1 + u.1 - x.1) + conv r _ _ = 0
      rw [ih fun y hy => hx y (List.mem_cons_of_mem _ hy), cf_none (u :: s) _ fun y hy e => ?_, Int.mul_zero]
      · rfl
      · have l1 := asc_le h' hy
        have l2 := hx x List.mem_cons_self
        omega
  rw [this r (List.pairwise_cons.mp h).1]
  omega
/-- geometric sums close up -/
theorem rounds_succ (n : Nat) (s : Int) : rounds (n + 1) s = rounds n s ++ [((n : Int) * s, 1)] := by
  unfold rounds
  rw [List.range_succ, List.map_append]
  rfl
theorem rounds_tel (s e : Int) : ∀ n : Nat, cf (rounds n s) e - cf (rounds n s) (e - s) = (if 0 = e then 1 else 0) - (if (n : Int) * s = e then 1 else 0)
  | 0 => by
    show (0 : Int) - 0 = _
    simp
  | n + 1 => by
    rw [rounds_succ, cf_append, cf_append, cf_cons, cf_cons, cf_nil, cf_nil]
    have ih := rounds_tel s e n
    show cf (rounds n s) e + ((if (n : Int) * s = e then 1 else 0) + 0) - (cf (rounds n s) (e - s) + ((if (n : Int) * s = e - s then 1 else 0) + 0)) = _
    have e1 : (((n + 1 : Nat) : Int) * s = e) ↔ ((n : Int) * s = e - s) := by
      rw [Int.natCast_add, Int.add_mul]
      constructor <;> intro h <;> omega
    by_cases h1 : (n : Int) * s = e - s
    · rw [if_pos h1, if_pos (e1.mpr h1)]
      omega
    · rw [if_neg h1, if_neg (fun z => h1 (e1.mp z))]
      omega
end DR
/-! Powers: the rounds of an effect added up, forwards and backwards. -/
namespace DR
def upF (F : Int → Int) (m : Int) : Nat → Int → Int
  | 0, _ => 0
  | n + 1, e => upF F m n e + F (e - (n : Int) * m)
def dnF (F : Int → Int) (m : Int) : Nat → Int → Int
  | 0, _ => 0
  | n + 1, e => dnF F m n e + F (e + ((n : Int) + 1) * m)
/-- what c rounds of an effect with the worth F and the shift m turn -/
def pwF (F : Int → Int) (m : Int) : Int → Int → Int
  | .ofNat n, e => upF F m n e
  | .negSucc n, e => - dnF F m (n + 1) e
theorem pw_zero (F : Int → Int) (m e : Int) : pwF F m 0 e = 0 := rfl
theorem pw_succ (F : Int → Int) (m : Int) : ∀ (c e : Int), pwF F m (c + 1) e = pwF F m c e + F (e - c * m)
  | .ofNat n, e => rfl
  | .negSucc 0, e => by
    show pwF F m (Int.negSucc 0 + 1) e = - (0 + F (e + ((0 : Int) + 1) * m)) + F (e - Int.negSucc 0 * m)
    rw [show Int.negSucc 0 + 1 = 0 from rfl, pw_zero, show Int.negSucc 0 = (-1 : Int) from rfl, show e - -1 * m = e + (0 + 1) * m by omega]
    omega
  | .negSucc (n + 1), e => by
    rw [show Int.negSucc (n + 1) + 1 = Int.negSucc n from rfl]
    show - dnF F m (n + 1) e = - (dnF F m (n + 1) e + F (e + (((n + 1 : Nat) : Int) + 1) * m)) + F (e - Int.negSucc (n + 1) * m)
    have h : Int.negSucc (n + 1) = -(((n + 1 : Nat) : Int) + 1) := by omega
    rw [h, Int.neg_mul, Int.sub_neg]
    omega
theorem int_ind {P : Int → Prop} (h0 : P 0) (hs : ∀ c, P c ↔ P (c + 1)) (c : Int) : P c := by
  have up : ∀ n : Nat, P (n : Int) := fun n => by
    induction n with
    | zero => exact h0
    | succ n ih =>
      have := (hs (n : Int)).mp ih
      exact this
  have dn : ∀ n : Nat, P (-(n : Int)) := fun n => by
    induction n with
    | zero => exact h0
    | succ n ih =>
      refine (hs _).mpr ?_
      rw [show -((n + 1 : Nat) : Int) + 1 = -(n : Int) by omega]
      exact ih
  by_cases h : 0 ≤ c
  · have := up c.toNat
    rw [Int.toNat_of_nonneg h] at this
    exact this
  · have := dn (-c).toNat
    rw [Int.toNat_of_nonneg (by omega), Int.neg_neg] at this
    exact this
theorem pw_add (F : Int → Int) (m a : Int) : ∀ (b e : Int), pwF F m (a + b) e = pwF F m a e + pwF F m b (e - a * m) := by
  intro b
  refine int_ind (P := fun b => ∀ e, pwF F m (a + b) e = pwF F m a e + pwF F m b (e - a * m)) (fun e => ?_) (fun c => ?_) b
  · rw [Int.add_zero, pw_zero, Int.add_zero]
  · have key : ∀ e, F (e - (a + c) * m) = F (e - a * m - c * m) := fun e => by
      congr 1
      rw [Int.add_mul]
      omega
    constructor
    · intro h e
      rw [← Int.add_assoc, pw_succ, pw_succ, h e, key]
      omega
    · intro h e
      have h' := h e
      rw [← Int.add_assoc, pw_succ, pw_succ, key] at h'
      omega
theorem pw_neg (F : Int → Int) (m a e : Int) : pwF F m (-a) e = - pwF F m a (e + a * m) := by
  have h := pw_add F m (-a) a e
  rw [Int.add_left_neg, pw_zero, Int.neg_mul, Int.sub_neg] at h
  omega
theorem pw_one (F : Int → Int) (m e : Int) : pwF F m 1 e = F e := by
  show 0 + F (e - ((0 : Nat) : Int) * m) = F e
  rw [Int.zero_add, show e - ((0 : Nat) : Int) * m = e by omega]
theorem pw_congr {F G : Int → Int} (h : ∀ x, F x = G x) (m c e : Int) : pwF F m c e = pwF G m c e := by
  rw [show F = G from funext h]
theorem pw_mod {q : Int} {F G : Int → Int} (h : ∀ x, F x % q = G x % q) (m : Int) : ∀ c e : Int, pwF F m c e % q = pwF G m c e % q := by
  intro c
  refine int_ind (P := fun c => ∀ e, pwF F m c e % q = pwF G m c e % q) (fun e => rfl) (fun c => ?_) c
  constructor
  · intro k e
    rw [pw_succ, pw_succ, Int.add_emod, k e, h, ← Int.add_emod]
  · intro k e
    have e1 := k e
    rw [pw_succ, pw_succ] at e1
    have e2 : pwF F m c e = pwF F m c e + F (e - c * m) - F (e - c * m) := by omega
    have e3 : pwF G m c e = pwF G m c e + G (e - c * m) - G (e - c * m) := by omega
    rw [e2, e3, Int.sub_emod, e1, h (e - c * m), ← Int.sub_emod]
/-- the inverse's rounds are rounds backwards -/
theorem pw_inv (F : Int → Int) (m : Int) : ∀ c e : Int, pwF (fun x => F (x + m) * -1) (-m) c e = pwF F m (-c) e := by
  intro c
  refine int_ind (P := fun c => ∀ e, pwF (fun x => F (x + m) * -1) (-m) c e = pwF F m (-c) e) (fun e => rfl) (fun c => ?_) c
  have key : ∀ e, pwF F m (-c) e = pwF F m (-(c + 1)) e + F (e + c * m + m) := fun e => by
    have h := pw_succ F m (-(c + 1)) e
    rw [show -(c + 1) + 1 = -c by omega, Int.neg_mul, Int.sub_neg, Int.add_mul, Int.one_mul, ← Int.add_assoc] at h
    exact h
  have k2 : ∀ e, F (e - c * -m + m) * -1 = - F (e + c * m + m) := fun e => by
    rw [show e - c * -m + m = e + c * m + m by rw [Int.mul_neg]; omega]
    omega
  constructor
  · intro h e
    rw [pw_succ, h e, k2, key e]
    omega
  · intro h e
    have h' := h e
    rw [pw_succ, k2] at h'
    rw [key e]
    omega
theorem pw_mul (F : Int → Int) (m a : Int) : ∀ b e : Int, pwF (fun x => pwF F m a x) (a * m) b e = pwF F m (a * b) e := by
  intro b
  refine int_ind (P := fun b => ∀ e, pwF (fun x => pwF F m a x) (a * m) b e = pwF F m (a * b) e) (fun e => by rw [Int.mul_zero, pw_zero, pw_zero]) (fun c => ?_) b
  have key : ∀ e, pwF F m (a * (c + 1)) e = pwF F m (a * c) e + pwF F m a (e - c * (a * m)) := fun e => by
    rw [Int.mul_add, Int.mul_one, pw_add, show a * c * m = c * (a * m) by rw [Int.mul_comm a c, Int.mul_assoc]]
  constructor
  · intro h e
    rw [pw_succ, h e, key e]
  · intro h e
    have h' := h e
    rw [pw_succ, key e] at h'
    omega
/-- led by another effect -/
theorem pw_led (F G : Int → Int) (m n : Int) : ∀ b e : Int, pwF (fun x => G (x + n) * -1 + F (x + n) + G (x + n - m)) m b e = G (e + n) * -1 + pwF F m b (e + n) + G (e + n - b * m) := by
  intro b
  refine int_ind (P := fun b => ∀ e, pwF (fun x => G (x + n) * -1 + F (x + n) + G (x + n - m)) m b e = G (e + n) * -1 + pwF F m b (e + n) + G (e + n - b * m)) (fun e => by rw [pw_zero, pw_zero, Int.zero_mul, Int.sub_zero]; omega) (fun c => ?_) b
  have key : ∀ e, G (e - c * m + n) * -1 + F (e - c * m + n) + G (e - c * m + n - m) = G (e + n - c * m) * -1 + F (e + n - c * m) + G (e + n - (c + 1) * m) := fun e => by
    rw [show e - c * m + n = e + n - c * m by omega, show e + n - c * m - m = e + n - (c + 1) * m by rw [Int.add_mul]; omega]
  constructor
  · intro h e
    rw [pw_succ, pw_succ, h e, key]
    omega
  · intro h e
    have h' := h e
    rw [pw_succ, pw_succ, key] at h'
    omega
theorem conv_rounds (f : Pol) (m : Int) : ∀ (n : Nat) (e : Int), conv f (cf (rounds n m)) e = upF (cf f) m n e
  | 0, e => (conv_congr (G' := fun _ => 0) (fun _ => rfl) f e).trans (conv_zero f e)
  | n + 1, e => by
    have h : ∀ x, cf (rounds (n + 1) m) x = (if ((n : Int) * m, (1 : Int)).1 = x then ((n : Int) * m, (1 : Int)).2 else 0) + cf (rounds n m) x := fun x => by
      rw [rounds_succ, cf_append, cf_cons, cf_nil]
      omega
    rw [conv_congr h, conv_snd, conv_rounds f m n e]
    show 1 * cf f (e - (n : Int) * m) + upF (cf f) m n e = upF (cf f) m n e + cf f (e - (n : Int) * m)
    omega
theorem pw_rounds (f : Pol) (m : Int) {c : Int} (h : 0 ≤ c) (e : Int) : conv f (cf (rounds c.toNat m)) e = pwF (cf f) m c e := by
  obtain ⟨n, rfl⟩ : ∃ n : Nat, c = (n : Int) := ⟨c.toNat, by omega⟩
  rw [Int.toNat_natCast, conv_rounds]
  rfl
theorem up_far {F : Int → Int} {m e : Int} : ∀ n : Nat, (∀ k : Int, k.natAbs ≤ n → F (e - k * m) = 0) → upF F m n e = 0
  | 0, _ => rfl
  | n + 1, h => by
    show upF F m n e + F (e - (n : Int) * m) = 0
    rw [up_far n fun k hk => h k (by omega), h (n : Int) (by omega)]
    rfl
theorem dn_far {F : Int → Int} {m e : Int} : ∀ n : Nat, (∀ k : Int, k.natAbs ≤ n → F (e - k * m) = 0) → dnF F m n e = 0
  | 0, _ => rfl
  | n + 1, h => by
    show dnF F m n e + F (e + ((n : Int) + 1) * m) = 0
    have h1 := h (-((n : Int) + 1)) (by omega)
    rw [Int.neg_mul, Int.sub_neg] at h1
    rw [dn_far n fun k hk => h k (by omega), h1]
    rfl
theorem pw_far {F : Int → Int} {m e : Int} : ∀ c : Int, (∀ k : Int, k.natAbs ≤ c.natAbs → F (e - k * m) = 0) → pwF F m c e = 0
  | .ofNat n, h => up_far n h
  | .negSucc n, h => by
    show - dnF F m (n + 1) e = 0
    rw [dn_far (n + 1) h]
    rfl
theorem pw_flat (F : Int → Int) (e : Int) : ∀ c : Int, pwF F 0 c e = c * F e := by
  intro c
  refine int_ind (P := fun c => pwF F 0 c e = c * F e) (by rw [pw_zero, Int.zero_mul]) (fun c => ?_) c
  rw [pw_succ, Int.mul_zero, Int.sub_zero, Int.add_mul, Int.one_mul]
  omega
end DR
/-! What the laws of one document share: a few rules more of the hand layer, and polynomials in the heap. -/
namespace DR
open PySem PySem.Spec PyProof.Rows L2
section
variable {P : Program} {w : World} {A : Around} {E : Value → Shared → Prop}
/-- the second half of `sorted`: the members stand gathered and are ints; they go into a new list, and that is put in order -/
theorem order_ints {now : Shared} {items : List Value} {nums : List Int} {after : PySem.Fin → Shared → Prop} (whole : IntsAre items nums) (room : items.length ≤ sizeLine)
    (next : ∀ (g : Heap) (arr : Array Value) (stamp : Nat) (ys : List Int), (∀ b u, now.heap.get? b = some u → g.get? b = some u) → g.get? now.heap.objs.size = some (seqObj "list" arr stamp) → IntsAre arr.toList ys →
      ys.Perm nums → ys.Pairwise (· ≤ ·) → after (.done (.ret (.ref now.heap.objs.size))) { now with heap := g }) :
    wpAny (model P w) A (do let l ← newList items; let _ ← holding [l] (call (.builtin "list.sort") [l] []); ret l) after E now := by
  have laid : (now.heap.push (seqObj "list" items.toArray 0)).get? now.heap.objs.size = some (seqObj "list" items.toArray 0) := Heap.get?_push_size _ rfl
  have done : ∀ out : List Value, SrtO.Srtd SrtO.ltIv out → SrtO.Stb SrtO.ltIv out items →
      after (.done (.ret (.ref now.heap.objs.size))) { now with heap := sortedHeap (now.heap.push (seqObj "list" items.toArray 0)) now.heap.objs.size items out.toArray } := fun out asc same => by
    obtain ⟨numb, perm, up⟩ := SrtO.ints_out whole asc same
    obtain ⟨stamp, there⟩ := sortedHeap_at (vs := items) (out := out.toArray) laid
    refine next _ out.toArray stamp (out.map SrtO.iv) (fun b u old => ?_) there (by simpa using numb) perm up
    have below : b < now.heap.objs.size := Heap.lt_size old
    have wider : b < (now.heap.push (seqObj "list" items.toArray 0)).objs.size := by
      rw [size_push']
      exact Nat.lt_succ_of_lt below
    exact (sortedHeap_old (Nat.ne_of_lt below) wider).trans (Heap.get?_push_of_some _ old)
  have sorts := SrtO.list_sort_ord (prog := P) (w := w) (A := A.in1) (E := E) (s := { now with heap := now.heap.push (seqObj "list" items.toArray 0) }) (R := fun r s' => r = .done (.ret .none) ∧ ∃ out : List Value, SrtO.Srtd SrtO.ltIv out ∧ SrtO.Stb SrtO.ltIv out items ∧ s' = { now with heap := sortedHeap (now.heap.push (seqObj "list" items.toArray 0)) now.heap.objs.size items out.toArray })
    SrtO.swo_int laid room (fun two => SrtO.ints_sortable whole two) fun out asc same => ⟨rfl, out, asc, same, rfl⟩
  refine wpAny_bind (wpAny_newList (wpAny_bind (wpAny_holding ?_)) room)
  refine wpAny_call_entry slot_list_sort ⟨_, laid, rfl⟩ entry_list_sort ?_ (args_list_sort _)
  refine wpAny_mono sorts (fun r s' told => ?_) fun e s' told => told
  obtain ⟨rfl, out, asc, same, rfl⟩ := told
  exact ⟨_, rfl, wpAny_pure (done out asc same)⟩
end
section
variable {X : Cx}
/-- sorted(d), the keys ints, however many -/
theorem call_sortedDA (calm : X.calm = true) : CallR X (.builtin "sorted") (fun given G K => ∃ (d : Addr) (kvs : List (Key × V)) (ks : List Int), given = [.ref d] ∧ Rd G d (.dK kvs) ∧ kvs.map (·.1) = ks.map Sum.inl ∧
    ∀ (ys : List Int) (p : Addr), ys.Perm ks → (ys.Pairwise fun u v => u ≤ v) → G p = none → K (.ref p) (upd G p (.lst (ys.map V.int)))) := by
  intro pins now σ G given us K I r told
  obtain ⟨d, kvs, ks, rfl, hd, hks, told⟩ := told
  rw [Vals.ref1 r]
  obtain ⟨few, loose, pairs, rel, dd⟩ := dk_rd I.hok hd
  obtain ⟨ep, at_d⟩ := dd.dictAt
  have keys : pairs.map (·.1) = ks.map Sum.inl := hks ▸ rel.keys.symm
  have len : pairs.length = ks.length := by simpa using congrArg List.length keys
  have lkv : kvs.length = ks.length := by simpa using congrArg List.length hks
  have fits : pairs.length ≤ sizeLine := by
    rw [len, ← lkv]
    exact few
  refine Calls.call_function_entry kind_sorted plain_sorted entry_sorted (args_sorted1 _) ?_
  unfold Builtin.«sorted»
  refine wpAny_bind (m := checkCount "sorted" 1 1 _) (wpAny_pure (wpAny_bind (PySem.W.kdu_collect (A := X.A.in1) (PySem.W.kdl_dict (knd := mixKind X.prog X.w) (kvs := pairs) (ep := ep) loose) (I.ok.hd calm) at_d fits fun g1 toks acc kept each => ?_)))
  have lacc : acc.toList.length = ks.length := by rw [Array.length_toList, each.1, len]
  have whole : IntsAre acc.toList ks := ints_each lacc fun j v e => by
    obtain ⟨k, _, here, like⟩ := each.2 j v (by simpa using e)
    have key : (ks.map Sum.inl)[j]? = some k := by rw [← keys, List.getElem?_map, here]; rfl
    rw [List.getElem?_map] at key
    obtain ⟨y, hy, rfl⟩ := Option.map_eq_some_iff.mp key
    rcases keyIs_shape (show keyIs (Sum.inl y) v = true from like) with ⟨i, t, ek, ev⟩ | ⟨_, _, ek, _⟩
    · cases ek
      exact ⟨y, t, hy, ev⟩
    · cases ek
  have I1 : Inv X pins σ G { now with heap := g1, toks := toks } := I.kept kept
  refine order_ints whole (by rw [lacc, ← lkv]; exact few) fun g arr stamp ys old there numb perm up => ?_
  have fit : (ys.map V.int).length ≤ sizeLine := by
    rw [List.length_map, perm.length_eq, ← lkv]
    exact few
  exact ⟨_, rfl, .ref g1.objs.size, _, I1.laid (t' := toks) (o := .lst (ys.map V.int)) old (Nat.le_refl _) ⟨fit, arr.toList, stamp, vals_of_ints numb, there⟩, rfl, told ys _ perm up (I1.hok.fresh (Nat.le_refl _))⟩
/-- repr(x), x data of any depth, where no other repr runs -/
theorem call_reprD (hg : X.A.guards = some []) (hu : X.A.units + 100 < cLine) : CallR X (.builtin "repr") (fun xs H Q => ∃ (x : V) (d : PyData), xs = [x] ∧ (∃ a, x = .ref a) ∧ Dp X.K H x d ∧ d.showable = true ∧ d.hasDict = false ∧ d.depth ≤ 64 ∧ d.shown.length ≤ sizeLine ∧ Q (.str d.shown) H) := by
  intro pins s σ H xs us Q I r h
  obtain ⟨x, d, rfl, ⟨a, rfl⟩, hd, hs, hn, hz, hl, q⟩ := h
  obtain ⟨u, rfl, rx⟩ := vals1 r
  cases rx
  obtain ⟨as, rd⟩ := Dp.reads I d _ _ hd rfl
  refine repr_of_reads' rd hs (fun z => absurd z (by rw [hn]; exact Bool.false_ne_true)) hg (by omega) (fun _ _ e => e) (fun h' t tk hk => ?_) hl
  exact ⟨.str d.shown, H, I.kept hk, ⟨t, rfl⟩, q⟩
end
end DR
namespace DR
open PySem PySem.Spec PyProof.Rows L2
/-! ### the law's own def is called once, by the caller alone: there no repr runs (guards), which FnOk can't say -/
/-- a promise kept where the law is called -/
def Kept (P : Program) (w : World) (K : PySem.W.Frag) (mg : Str → Option Value) (base : Heap) (f : Addr) (fd : FuncData) (ps : List Str) (sp : Sp) : Prop :=
  ∀ (s : Shared) (H : Hp) (args : Args) (us : List Value) (vs : List V) (Q : VK) (E : XK), Env0 P w K mg base callerA [] s H → BindsTo s fd args (ps.zip us) →
    Vals vs us → sp vs H Q E → codeAny (model P w) callerA (.call (.ref f) args) (CR CX0 [] P w H s Q E) s
theorem kept_of {P : Program} {w : World} {K : PySem.W.Frag} {mg : Str → Option Value} {base : Heap} {x qual : Str} {st : Stmt} {f : Addr} {fd : FuncData} {N ps : List Str} {k : Nat} {sp : Sp} (F : Fun K x qual st f fd) (S : FnScope N ps (defScope st))
    (len : ∀ vs H Q E, sp vs H Q E → vs.length = ps.length) (room : Room (k + 1) callerA)
    (body : ∀ (cdv : Value) (s : Shared) (H : Hp) (vs : List V) (Q : VK) (E : XK), Room k (callerA.deeper (envOfC qual (defScope st) s.heap.objs.size f cdv)) → sp vs H Q E →
      ∃ t, PSs (cxOf CX0 P w K mg base N qual (defScope st) f cdv callerA [] s H E).nox (defBody st) t ∧ t { nx := fun _ H' => Q .non H', rt := Q } (start N vs) H) : Kept P w K mg base f fd ps sp := by
  obtain ⟨_, _, _, _, _, _, cdv, _, _, rfl, found, code⟩ := F.ex
  intro s H args us vs Q E e0 hb r hsp
  have hl := len _ _ _ _ hsp
  have kin : K.In s.heap := e0.mod.kin.keeps fun b o e => (e0.bs b o e).1
  have free := e0.mod.nolimit.keeps fun b o e => (e0.bs b o e).1
  have kinds : ∀ y ∈ ps.zip us, (defScope st).names.lookup y.1 = some .local ∨ ((defScope st).names.lookup y.1 = some .cell ∧ ((cellsFrom (s.heap.objs.size + 1) (defScope st).names []).lookup y.1).isSome = true) := by
    rintro ⟨n, v⟩ hy
    exact (S.par n (List.of_mem_zip hy).1).imp_right fun q => ⟨q, PySem.W.cellsFrom_some _ _ _ (.inl q)⟩
  refine codeAny_call_function room.depth (kin _ _ found) rfl S.co S.gen rfl (PySem.W.codeRec_of kin code) (hb _ _ _ _ ?_)
  refine wpAny_newFunctionEnv_cells S.kind kinds fun env he s1 z => ?_
  subst he
  refine ⟨free.keeps z.toInCall.keep, codeAny_func ?_⟩
  obtain ⟨t, ht, hq⟩ := body cdv s H vs Q E (room.deeper _) hsp
  have I : Inv (cxOf CX0 P w K mg base N qual (defScope st) f cdv callerA [] s H E) [] (start N vs) H s1 := inv_start S room.hd e0 hl r z
  refine wpAny_mono (ht.nox.run [] s1 (start N vs) H _ I hq) (fun fl s2 hs => ?_) fun e s2 hs => hs
  cases fl with
  | ret u =>
    obtain ⟨v, _, H', J, rv, q⟩ := hs
    exact ⟨v, H', J.os, J.bare, J.base, J.hok, rv, q⟩
  | next =>
    obtain ⟨_, H', J, q⟩ := hs
    exact ⟨.non, H', J.os, J.bare, J.base, J.hok, rfl, q⟩
  | brk => exact hs.elim fun _ z => z.elim fun _ y => y.2.elim
  | cont => exact hs.elim fun _ z => z.elim fun _ y => y.2.elim
/-- what the judge asks of the law's call -/
abbrev Passed (before : Shared) : Except Value Flow → Shared → Prop := fun r s' => r = .ok (.ret (.bool true)) ∧ OldK before.heap s'.heap ∧ s'.os = before.os ∧ AllBare s'.gens
/-- the names of the module and of the builtins, as they stand before the call -/
structure Stand (K : PySem.W.Frag) (mg mb : Str → Option Value) (before : Shared) : Prop where
  kin : K.In before.heap
  mod : before.heap.Ns mainGlobals mg
  std : before.heap.Ns builtinsNs mb
  boot : ∀ x : Str, x ≠ "__name__" → mb x = bootBuiltins x
  free : before.heap.NoLimit
  none : before.gens = #[]
theorem law_kept {P : Program} {w : World} {K : PySem.W.Frag} {mg mb : Str → Option Value} {fa a : Addr} {fd : FuncData} {x : Str} {sp : Sp} {s₁ : Shared} {vs : List Value} {ns : List Int}
    (W : Stand K mg mb s₁)
    (ha : s₁.heap.get? a = some { cls := .type "list", data := .seq vs.toArray }) (hi : IntsAre vs ns) (hl : ns.length ≤ sizeLine)
    (F : ∀ base : Heap, K.In base → base.Ns mainGlobals mg → Kept P w K mg base fa fd [x] sp) (hbind : ∀ (s : Shared) (u : Value), BindsTo s fd ⟨[u], []⟩ [(x, u)])
    (hsp : ∀ H : Hp, Only H → SqL K H a (ns.map V.int) → sp [.ref a] H (fun v _ => v = .bl true) fun _ _ _ => False) :
    codeAny (model P w) callerA (.call (.ref fa) ⟨[.ref a], []⟩) (Passed s₁) s₁ := by
  have rv := vals_ints hi
  have core : ∀ H : Hp, Only H → SqL K H a (ns.map V.int) → HOk P w H s₁.heap → (∀ b, b ≠ a → H b = none) → (H a = none ∨ K.lookup a = none) →
      codeAny (model P w) callerA (.call (.ref fa) ⟨[.ref a], []⟩) (Passed s₁) s₁ := by
    intro H hO hS ok Hn hK
    have up : ∀ {b : Addr} {o : Obj}, H b = none → s₁.heap.get? b = some o → (hidT s₁.heap H).get? b = some o := fun q e => hidT_get e q
    have ns' : ∀ {b : Addr} {m : Str → Option Value}, s₁.heap.Ns b m → (hidT s₁.heap H).Ns b m := fun {b m} h => by
      obtain ⟨o, es, ep, e, d, r⟩ := h
      refine ⟨o, es, ep, up (Hn b fun q => ?_) e, d, r⟩
      subst q
      rw [ha] at e
      cases e
      exact nomatch d
    have kin : K.In (hidT s₁.heap H) := fun b o e => by
      refine up ?_ (W.kin b o e)
      by_cases q : b = a
      · rcases hK with z | z
        · rw [q]
          exact z
        · rw [q, z] at e
          cases e
      · exact Hn b q
    have M : Mod K mg (hidT s₁.heap H) := ⟨kin, ns' W.mod, ⟨mb, ns' W.std, W.boot⟩, W.free.elim fun mc z => ⟨mc, ns' z.1, z.2⟩⟩
    have e0 : Env0 P w K mg (hidT s₁.heap H) callerA [] s₁ H := ⟨rfl, M, fun b o e => of_hidT e, Nat.le_of_eq (hidT_size _ _), trivial, fun b z => absurd (show b ∈ ([] : List Addr) from z) (by simp), ok, .of_eq W.none⟩
    refine codeAny_mono (F _ kin (ns' W.mod) s₁ H _ [.ref a] [.ref a] _ _ e0 (hbind s₁ (.ref a)) (.cons rfl .nil) (hsp H hO hS)) fun r s' h => ?_
    cases r with
    | error e => exact False.elim h
    | ok fl =>
      cases fl with
      | ret u =>
        obtain ⟨v, H', os, bare, un, ok', r', q⟩ := h
        obtain rfl : v = .bl true := q
        cases r'
        refine ⟨rfl, OldK.of_keep ?_, os, bare⟩
        intro b o e
        obtain z | ⟨ob, xs, z⟩ := hO b
        · exact un.keep b o e z (fun y => absurd (show b ∈ ([] : List Addr) from y) (by simp)) (by simp)
        · have z1 := (ok _ _ z).1
          have z2 := (ok' _ _ (un.frzs _ _ _ z)).1
          rw [e] at z1
          cases z1
          exact z2
      | next => exact False.elim h
      | brk => exact False.elim h
      | cont => exact False.elim h
  cases hk : K.lookup a with
  | none =>
    refine core (fun b => if b = a then some (.frz { cls := .type "list", data := .seq vs.toArray } (.lst (ns.map V.int))) else none) (fun b => ?_) (.inl (.inr ⟨_, if_pos rfl⟩)) (fun b o e => ?_) (fun b e => if_neg e) (.inr hk)
    · by_cases q : b = a
      · exact .inr ⟨_, _, if_pos q⟩
      · exact .inl (if_neg q)
    · by_cases q : b = a
      · have e' := (if_pos q).symm.trans e
        cases e'
        subst q
        have fit : (ns.map V.int).length ≤ sizeLine := (List.length_map _).symm ▸ hl
        exact ⟨ha, fit, vs, _, rv, ha⟩
      · have e' := (if_neg q).symm.trans e
        cases e'
  | some o =>
    have e := W.kin a o hk
    rw [ha] at e
    cases e
    refine core (fun _ => none) (fun _ => .inl rfl) (.inr ⟨_, vs.toArray, _, hk, rfl, rfl, rfl, ?_, by simpa using rv⟩) (fun b u z => ?_) (fun b _ => rfl) (.inl rfl)
    · simpa [hi.length] using hl
    · have z' : (none : Option HO) = some u := z
      cases z'
/-- the end: the law's promise, kept where it is called, closes the walk -/
theorem walk_kept {l : PySem.W.OpenLaw} {q : Program} {loose : List Str} {XP : (Str → Option Value) → Heap → Prop} {YP : World → Heap → Prop} {d : DefRec} {K : Params → PySem.W.Frag} {sp : PySem.W.Frag → Sp} {x : Str}
    (hn : l.most = some 63) (hdf : d.params.defaults = []) (hY : ∀ (w : World) (h : Heap), YP w h → (K w.params).In h)
    (F : ∀ (w : World) (mg : Str → Option Value) (at_ : Addr) (g : Heap), (K w.params).In g → g.Ns mainGlobals mg → mg d.name = some (.ref at_) →
      ∃ fd : FuncData, (∀ (s : Shared) (u : Value), BindsTo s fd ⟨[u], []⟩ [(x, u)]) ∧ ∀ base : Heap, (K w.params).In base → base.Ns mainGlobals mg → Kept l.prog w (K w.params) mg base at_ fd [x] (sp (K w.params)))
    (hsp : ∀ (K : PySem.W.Frag) (H : Hp) (a : Addr) (ns : List Int), ns.length ≤ 63 → SqL K H a (ns.map V.int) → sp K [.ref a] H (fun v _ => v = .bl true) fun _ _ _ => False) :
    PySem.W.WalkO q loose XP YP l.row.toRowW d [] (fun f vs => PySem.call f vs) := by
  refine Att.attach_call hn hdf ?_
  intro w _ _ mg _ fa _ _ _ _ a _ ns G Y _ _ _ hmg hobj hints hlen hg
  obtain ⟨fd, hb, hF⟩ := F w mg fa _ (hY w _ Y) G.T.g hmg
  exact law_kept ⟨hY w _ Y, G.T.g, G.T.b, G.T.builtins, G.T.nolimit, hg⟩ hobj hints (Nat.le_trans hlen (by decide)) hF hb fun H _ hS => hsp _ H a ns hlen hS
end DR
namespace DR
open PySem PySem.Spec PyProof.Rows L2
/-! ### heaps -/
theorem same_new {H : Hp} {p : Addr} {o : HO} (h : H p = none) : Same H (upd H p o) := fun b u e => by
  rw [upd_ne (ne_of_none e h)]
  exact e
/-- what H does not know may change -/
theorem same_mut {H H' : Hp} {p : Addr} {o : HO} (s : Same H H') (h : H p = none) : Same H (upd H' p o) := fun b u e => by
  rw [upd_ne (ne_of_none e h)]
  exact s b u e
theorem same_t {K : PySem.W.Frag} {H H' : Hp} {a : Addr} {xs : List V} (e : Same H H') (h : SqT K H a xs) : SqT K H' a xs := by
  match h with
  | .inl (.inl z) => exact .inl (.inl (e _ _ z))
  | .inl (.inr ⟨u, z⟩) => exact .inl (.inr ⟨u, e _ _ z⟩)
  | .inr z => exact .inr z
theorem same_l {K : PySem.W.Frag} {H H' : Hp} {a : Addr} {xs : List V} (e : Same H H') (h : SqL K H a xs) : SqL K H' a xs := e.seq h
/-- all but what stands at p stays -/
def Kp (p : Addr) (H H' : Hp) : Prop := ∀ b o, b ≠ p → H b = some o → H' b = some o
theorem Kp.refl (p : Addr) (H : Hp) : Kp p H H := fun _ _ _ e => e
theorem Kp.trans {p : Addr} {H H1 H2 : Hp} (a : Kp p H H1) (b : Kp p H1 H2) : Kp p H H2 := fun c o n e => b c o n (a c o n e)
theorem Same.kp {p : Addr} {H H' : Hp} (s : Same H H') : Kp p H H' := fun b o _ e => s b o e
theorem Kp.upd {p : Addr} {H H' : Hp} {o : HO} (k : Kp p H H') : Kp p H (upd H' p o) := fun b u n e => by
  rw [upd_ne n]
  exact k b u n e
/-- tuples (and what is locked) stay: so every tuple of tuples and numbers does -/
structure Tp (H H' : Hp) : Prop where
  tup : ∀ b xs, H b = some (.tup xs) → H' b = some (.tup xs)
  frz : ∀ b o u, H b = some (.frz o u) → H' b = some (.frz o u)
theorem Same.tp {H H' : Hp} (s : Same H H') : Tp H H' := ⟨fun b xs e => s b _ e, fun b o u e => s b _ e⟩
theorem Tp.refl (H : Hp) : Tp H H := ⟨fun _ _ e => e, fun _ _ _ e => e⟩
theorem Tp.trans {H H1 H2 : Hp} (a : Tp H H1) (b : Tp H1 H2) : Tp H H2 := ⟨fun c xs e => b.tup c xs (a.tup c xs e), fun c o u e => b.frz c o u (a.frz c o u e)⟩
theorem Kp.tp {p : Addr} {H H' : Hp} {kvs : List (Key × V)} (k : Kp p H H') (h : H p = some (.dK kvs)) : Tp H H' :=
  ⟨fun b xs e => k b _ (ne_of e h (by intro z; cases z)) e, fun b o u e => k b _ (ne_of e h (by intro z; cases z)) e⟩
theorem tp_t {K : PySem.W.Frag} {H H' : Hp} {a : Addr} {xs : List V} (e : Tp H H') (h : SqT K H a xs) : SqT K H' a xs := by
  rcases h with (h | ⟨o, h⟩) | h
  · exact .inl (.inl (e.tup _ _ h))
  · exact .inl (.inr ⟨o, e.frz _ _ _ h⟩)
  · exact .inr h
/-- a list, a dict changes or a new thing comes -/
theorem tp_lst {H : Hp} {p : Addr} {xs : List V} {o : HO} (h : H p = some (.lst xs)) : Tp H (upd H p o) :=
  ⟨fun b ys e => by rw [upd_ne (ne_of e h (by intro z; cases z))]; exact e, fun b u v e => by rw [upd_ne (ne_of e h (by intro z; cases z))]; exact e⟩
theorem tp_dK {H : Hp} {p : Addr} {xs : List (Key × V)} {o : HO} (h : H p = some (.dK xs)) : Tp H (upd H p o) :=
  ⟨fun b ys e => by rw [upd_ne (ne_of e h (by intro z; cases z))]; exact e, fun b u v e => by rw [upd_ne (ne_of e h (by intro z; cases z))]; exact e⟩
theorem tp_new {H : Hp} {p : Addr} {o : HO} (h : H p = none) : Tp H (upd H p o) := Same.tp (same_new h)
/-! ### polynomials: tuples (or lists) of pairs of ints -/
def IsPr (K : PySem.W.Frag) (H : Hp) (x : V) (t : Int × Int) : Prop := ∃ a, x = V.ref a ∧ SqT K H a [.int t.1, .int t.2]
abbrev Prs (K : PySem.W.Frag) (H : Hp) : List V → Pol → Prop := Paired (IsPr K H)
def TPol (K : PySem.W.Frag) (H : Hp) (v : V) (f : Pol) : Prop := ∃ a xs, v = .ref a ∧ SqT K H a xs ∧ Prs K H xs f
def LPol (K : PySem.W.Frag) (H : Hp) (v : V) (f : Pol) : Prop := ∃ a xs, v = .ref a ∧ SqL K H a xs ∧ Prs K H xs f
section
variable {K : PySem.W.Frag} {H H' : Hp} {v x : V} {xs ys : List V} {f g : Pol} {t : Int × Int}
theorem IsPr.tp (e : Tp H H') (h : IsPr K H x t) : IsPr K H' x t := h.elim fun a z => ⟨a, z.1, tp_t e z.2⟩
theorem Prs.tp (e : Tp H H') : ∀ {xs : List V} {f : Pol}, Prs K H xs f → Prs K H' xs f
  | _, _, .nil => .nil
  | _, _, .cons r q => .cons (r.tp e) (Prs.tp e q)
theorem TPol.tp (e : Tp H H') (h : TPol K H v f) : TPol K H' v f := by
  obtain ⟨a, xs, rfl, hs, hp⟩ := h
  exact ⟨a, xs, rfl, tp_t e hs, Prs.tp e hp⟩
theorem LPol.same (e : Same H H') (h : LPol K H v f) : LPol K H' v f := by
  obtain ⟨a, xs, rfl, hs, hp⟩ := h
  exact ⟨a, xs, rfl, e.seq hs, Prs.tp (Same.tp e) hp⟩
theorem Prs.snoc : ∀ {xs : List V} {f : Pol}, Prs K H xs f → IsPr K H x t → Prs K H (xs ++ [x]) (f ++ [t])
  | _, _, .nil, h => .cons h .nil
  | _, _, .cons r q, h => .cons r (Prs.snoc q h)
theorem Prs.app : ∀ {xs : List V} {f : Pol}, Prs K H xs f → Prs K H ys g → Prs K H (xs ++ ys) (f ++ g)
  | _, _, .nil, h => h
  | _, _, .cons r q, h => .cons r (Prs.app q h)
theorem Prs.len (h : Prs K H xs f) : xs.length = f.length := Paired.length h
theorem Prs.get : ∀ {xs : List V} {f : Pol} {i : Nat} {x : V}, Prs K H xs f → xs[i]? = some x → ∃ t, f[i]? = some t ∧ IsPr K H x t
  | _, _, _, _, .nil, e => by simp at e
  | _, _, 0, _, .cons r _, e => by
    simp at e
    subst e
    exact ⟨_, rfl, r⟩
  | _, _, i + 1, x, .cons _ q, e => by
    obtain ⟨t, h1, h2⟩ := Prs.get (i := i) (x := x) q (by simpa using e)
    exact ⟨t, by simpa using h1, h2⟩
theorem isPr_new {p : Addr} {t : Int × Int} : IsPr K (upd H p (.tup [.int t.1, .int t.2])) (.ref p) t := ⟨p, rfl, SqT.of upd_same⟩
/-- as data -/
def pr (t : Int × Int) : PyData := .tuple [.int t.1, .int t.2]
def pd (f : Pol) : PyData := .tuple (f.map pr)
theorem IsPr.dp (h : IsPr K H x t) : Dp K H x (pr t) := by
  obtain ⟨a, rfl, hs⟩ := h
  exact .tup hs (.cons (.int _) (.cons (.int _) .nil))
theorem Prs.dp : ∀ {xs : List V} {f : Pol}, Prs K H xs f → DpAll K H xs (f.map pr)
  | _, _, .nil => .nil
  | _, _, .cons r q => .cons r.dp (Prs.dp q)
theorem TPol.dp (h : TPol K H v f) : Dp K H v (pd f) := by
  obtain ⟨a, xs, rfl, hs, hp⟩ := h
  exact .tup hs hp.dp
end
/-! ### how they are shown -/
theorem int_shows {i : Int} (h : i.natAbs < 10 ^ 100) : (PyData.int i).showable = true ∧ ((PyData.int i).shown).length ≤ 101 := by
  refine ⟨decide_eq_true (log2_small (Nat.lt_of_lt_of_le h (by decide +kernel))), ?_⟩
  have e := int_text_length_le10 (k := 100) (by decide) h
  show (Str.ofString (toString i)).length ≤ 101
  rw [PySem.ofString_length]
  exact e
theorem pr_shows {t : Int × Int} (h1 : t.1.natAbs < 10 ^ 100) (h2 : t.2.natAbs < 10 ^ 100) : (pr t).showable = true ∧ (pr t).shown.length ≤ 209 := by
  obtain ⟨a1, a2⟩ := int_shows h1
  obtain ⟨b1, b2⟩ := int_shows h2
  refine ⟨?_, ?_⟩
  · show ((PyData.int t.1).showable && ((PyData.int t.2).showable && true)) = true
    rw [a1, b1]
    rfl
  · show (tupleText [(PyData.int t.1).shown, (PyData.int t.2).shown]).length ≤ 209
    have := tupleText_len_le [(PyData.int t.1).shown, (PyData.int t.2).shown]
    simp only [List.map_cons, List.map_nil, List.sum_cons, List.sum_nil, List.length_cons, List.length_nil] at this
    omega
/-- small enough to be shown -/
structure Sm (f : Pol) : Prop where
  len : f.length ≤ 50000
  abs : ∀ t ∈ f, t.1.natAbs < 10 ^ 100 ∧ t.2.natAbs < 10 ^ 100
theorem prs_shows : ∀ (f : Pol), (∀ t ∈ f, t.1.natAbs < 10 ^ 100 ∧ t.2.natAbs < 10 ^ 100) → PyData.showableAll (f.map pr) = true ∧ PyData.hasDictAll (f.map pr) = false ∧ PyData.depthAll (f.map pr) ≤ 1 ∧ ((PyData.shownAll (f.map pr)).map (·.length)).sum ≤ 209 * f.length ∧ (PyData.shownAll (f.map pr)).length = f.length
  | [], _ => ⟨rfl, rfl, Nat.zero_le _, Nat.zero_le _, rfl⟩
  | t :: r, h => by
    obtain ⟨a1, a2, a3, a4, a5⟩ := prs_shows r fun u hu => h u (List.mem_cons_of_mem _ hu)
    obtain ⟨b1, b2⟩ := pr_shows (h t List.mem_cons_self).1 (h t List.mem_cons_self).2
    refine ⟨?_, ?_, ?_, ?_, ?_⟩
    · show ((pr t).showable && PyData.showableAll (r.map pr)) = true
      rw [a1, b1]
      rfl
    · show ((pr t).hasDict || PyData.hasDictAll (r.map pr)) = false
      rw [a2]
      rfl
    · show max (pr t).depth (PyData.depthAll (r.map pr)) ≤ 1
      have : (pr t).depth = 1 := rfl
      omega
    · show ((pr t).shown.length :: ((PyData.shownAll (r.map pr)).map (·.length))).sum ≤ 209 * (r.length + 1)
      rw [List.sum_cons]
      omega
    · show (PyData.shownAll (r.map pr)).length + 1 = r.length + 1
      rw [a5]
theorem pd_shows {f : Pol} (h : Sm f) : (pd f).showable = true ∧ (pd f).hasDict = false ∧ (pd f).depth ≤ 2 ∧ (pd f).shown.length ≤ 211 * f.length + 3 := by
  obtain ⟨a1, a2, a3, a4, a5⟩ := prs_shows f h.abs
  refine ⟨a1, a2, ?_, ?_⟩
  · show PyData.depthAll (f.map pr) + 1 ≤ 2
    omega
  · show (tupleText (PyData.shownAll (f.map pr))).length ≤ _
    have := tupleText_len_le (PyData.shownAll (f.map pr))
    rw [a5] at this
    omega
/-- what repr asks -/
structure Shows (K : PySem.W.Frag) (H : Hp) (v : V) (d : PyData) : Prop where
  ref : ∃ a, v = .ref a
  dp : Dp K H v d
  s1 : d.showable = true
  s2 : d.hasDict = false
  s3 : d.depth ≤ 64
  s4 : d.shown.length ≤ sizeLine
theorem TPol.shows {K : PySem.W.Frag} {H : Hp} {v : V} {f : Pol} (h : TPol K H v f) (s : Sm f) : Shows K H v (pd f) := by
  obtain ⟨a1, a2, a3, a4⟩ := pd_shows s
  have := s.len
  refine ⟨h.elim fun a z => ⟨a, z.elim fun _ y => y.1⟩, h.dp, a1, a2, by omega, ?_⟩
  rw [sizeLine_eq]
  omega
theorem pr_lay (t : Int × Int) : (pr t).canLay0 = true := rfl
theorem prs_lay : ∀ f : Pol, PyData.canLayAll0 (f.map pr) = true ∧ PyData.depthAll (f.map pr) ≤ 1
  | [] => ⟨rfl, Nat.zero_le _⟩
  | t :: r => by
    obtain ⟨a, b⟩ := prs_lay r
    refine ⟨?_, ?_⟩
    · show ((pr t).canLay0 && PyData.canLayAll0 (r.map pr)) = true
      rw [a]
      rfl
    · show max (pr t).depth (PyData.depthAll (r.map pr)) ≤ 1
      have : (pr t).depth = 1 := rfl
      omega
theorem pd_shaped (f : Pol) : SeqAt.shaped (pd f) = true := by
  obtain ⟨a, b⟩ := prs_lay f
  show (PyData.canLayAll0 (f.map pr) && decide (PyData.depthAll (f.map pr) + 1 ≤ 64)) = true
  rw [a, decide_eq_true (by omega)]
  rfl
/-! ### dicts of ints -/
def kvOf (m : Pol) : List (Key × V) := m.map fun t => (Sum.inl t.1, V.int t.2)
theorem kv_keys (m : Pol) : (kvOf m).map (·.1) = (m.map (·.1)).map Sum.inl := by
  unfold kvOf
  rw [List.map_map, List.map_map]
  rfl
theorem kv_val : ∀ (m : Pol) (e : Int), (m.map (·.1)).Nodup → valV (kvOf m) (Sum.inl e) = if e ∈ m.map (·.1) then some (.int (cf m e)) else none
  | [], e, _ => by simp [kvOf, valV_nil]
  | t :: r, e, h => by
    have n := List.nodup_cons.mp (show (t.1 :: r.map (·.1)).Nodup from h)
    show valV ((Sum.inl t.1, V.int t.2) :: kvOf r) (Sum.inl e) = _
    by_cases q : t.1 = e
    · rw [valV_pos (by rw [q])]
      rw [if_pos (by rw [← q]; exact List.mem_cons_self), cf_cons, if_pos q, cf_out (f := r) (e := e) (by rw [← q]; exact n.1)]
      show some (V.int t.2) = some (V.int (t.2 + 0))
      rw [Int.add_zero]
    · rw [valV_neg (fun z => q (Sum.inl.inj z)), kv_val r e n.2, cf_cons, if_neg q, Int.zero_add]
      have : e ∈ (t :: r).map (·.1) ↔ e ∈ r.map (·.1) := by
        rw [List.map_cons, List.mem_cons]
        exact ⟨fun z => z.elim (fun y => absurd y.symm q) id, .inr⟩
      by_cases z : e ∈ r.map (·.1)
      · rw [if_pos z, if_pos (this.mpr z)]
      · rw [if_neg z, if_neg (fun y => z (this.mp y))]
theorem kv_getD (m : Pol) (e : Int) (h : (m.map (·.1)).Nodup) : (valV (kvOf m) (Sum.inl e)).getD (.int 0) = .int (cf m e) := by
  rw [kv_val m e h]
  by_cases z : e ∈ m.map (·.1)
  · rw [if_pos z]
    rfl
  · rw [if_neg z, cf_out z]
    rfl
theorem kv_has {m : Pol} {e : Int} (h : (m.map (·.1)).Nodup) (z : e ∈ m.map (·.1)) : valV (kvOf m) (Sum.inl e) = some (.int (cf m e)) := by
  rw [kv_val m e h, if_pos z]
theorem put_new : ∀ {m : Pol} {e v : Int}, e ∉ m.map (·.1) → put m e v = m ++ [(e, v)]
  | [], _, _, _ => rfl
  | t :: r, e, v, h => by
    have h1 : t.1 ≠ e := fun z => h (by rw [← z]; exact List.mem_cons_self)
    unfold put
    rw [if_neg h1, put_new fun z => h (List.mem_cons_of_mem _ z)]
    rfl
theorem put_old : ∀ {m : Pol} {e v : Int}, (m.map (·.1)).Nodup → e ∈ m.map (·.1) → put m e v = m.map fun t => if t.1 = e then (t.1, v) else t
  | [], _, _, _, h => absurd h List.not_mem_nil
  | t :: r, e, v, n, h => by
    have nn := List.nodup_cons.mp (show (t.1 :: r.map (·.1)).Nodup from n)
    unfold put
    by_cases q : t.1 = e
    · rw [if_pos q, List.map_cons, if_pos q, q]
      congr 1
      have : ∀ u ∈ r, (if u.1 = e then (u.1, v) else u) = id u := fun u hu => by
        rw [if_neg]
        · rfl
        · intro z
          exact nn.1 (by rw [q, ← z]; exact List.mem_map_of_mem hu)
      rw [List.map_congr_left this, List.map_id]
    · rw [if_neg q, List.map_cons, if_neg q, put_old nn.2]
      rcases List.mem_cons.mp (show e ∈ t.1 :: r.map (·.1) from h) with z | z
      · exact absurd z.symm q
      · exact z
theorem kv_put {m : Pol} {e v : Int} (n : (m.map (·.1)).Nodup) : putK (kvOf m) (Sum.inl e : Key) (.int v) = kvOf (put m e v) := by
  by_cases z : e ∈ m.map (·.1)
  · rw [put_old n z]
    unfold putK
    rw [valV_any, kv_has n z, if_pos (by rfl)]
    unfold kvOf
    rw [List.map_map, List.map_map]
    refine List.map_congr_left fun t _ => ?_
    show (if (Sum.inl t.1 : Key) = Sum.inl e then ((Sum.inl t.1 : Key), V.int v) else (Sum.inl t.1, V.int t.2)) = (Sum.inl (if t.1 = e then (t.1, v) else t).1, V.int (if t.1 = e then (t.1, v) else t).2)
    by_cases q : t.1 = e
    · rw [if_pos q, if_pos (by rw [q])]
    · rw [if_neg q, if_neg (fun y => q (Sum.inl.inj y))]
  · rw [putK_new _ (by rw [kv_val m e n, if_neg z]), put_new z]
    unfold kvOf
    rw [List.map_append]
    rfl
theorem kv_len (m : Pol) : (kvOf m).length = m.length := by
  unfold kvOf
  rw [List.length_map]
theorem sl_of {n : Nat} (h : n ≤ 1000000) : n ≤ sizeLine := by
  rw [sizeLine_eq]
  omega
theorem sl_lt {n : Nat} (h : n ≤ 1000000) : n < sizeLine := by
  rw [sizeLine_eq]
  omega
/-! ### a list of pairs that a comprehension, or a loop, makes -/
structure Grow (K : PySem.W.Frag) (H0 : Hp) (D : Addr) (f : Pol) (H : Hp) : Prop where
  same : Same H0 H
  ex : ∃ xs, H D = some (.lst xs) ∧ Prs K H xs f
section
variable {K : PySem.W.Frag} {H0 H : Hp} {D q : Addr} {f : Pol}
theorem Grow.start (n : H0 D = none) : Grow K H0 D [] (upd H0 D (.lst [])) := ⟨same_new n, [], upd_same, .nil⟩
theorem Grow.step (n : H0 D = none) (g : Grow K H0 D f H) (hq : H q = none) (e c : Int) (hl : f.length < 1000000) :
    ∃ acc, upd H q (.tup [.int e, .int c]) D = some (.lst acc) ∧ acc.length < sizeLine ∧ Grow K H0 D (f ++ [(e, c)]) (upd (upd H q (.tup [.int e, .int c])) D (.lst (acc ++ [.ref q]))) := by
  obtain ⟨s, xs, hD, hP⟩ := g
  have nDq : D ≠ q := ne_of_none hD hq
  have h1 : upd H q (.tup [.int e, .int c]) D = some (.lst xs) := by
    rw [upd_ne nDq]
    exact hD
  have t1 : Tp H (upd H q (.tup [.int e, .int c])) := tp_new hq
  have t2 : Tp (upd H q (.tup [.int e, .int c])) (upd (upd H q (.tup [.int e, .int c])) D (.lst (xs ++ [.ref q]))) := tp_lst h1
  refine ⟨xs, h1, sl_lt (by rw [hP.len]; omega), same_mut (s.trans (same_new hq)) n, _, upd_same, Prs.snoc (Prs.tp (t1.trans t2) hP) (IsPr.tp t2 ?_)⟩
  exact isPr_new (t := (e, c))
end
theorem ints_get {ys : List Int} {i : Nat} {x : V} (h : (ys.map V.int)[i]? = some x) : ∃ e, ys[i]? = some e ∧ x = .int e := by
  rw [List.getElem?_map] at h
  cases q : ys[i]? with
  | none =>
    rw [q] at h
    cases h
  | some e =>
    rw [q] at h
    exact ⟨e, rfl, (Option.some.inj h).symm⟩
theorem take_snoc {α : Type} {ys : List α} {i : Nat} {e : α} (h : ys[i]? = some e) : ys.take (i + 1) = ys.take i ++ [e] := by
  rw [List.take_add_one, h]
  rfl
theorem dget_int {H : Hp} {d : Addr} {m : Pol} {e : Int} (h : H d = some (.dK (kvOf m))) (n : (m.map (·.1)).Nodup) (z : e ∈ m.map (·.1)) : DGet H d (.int e) (some (.int (cf m e))) := by
  have := DGet.k (k := (Sum.inl e : Key)) h
  rw [kv_has n z] at this
  exact this
theorem dget_any {H : Hp} {d : Addr} {m : Pol} (e : Int) (h : H d = some (.dK (kvOf m))) : DGet H d (.int e) (valV (kvOf m) (Sum.inl e)) := DGet.k (k := (Sum.inl e : Key)) h
theorem dput_int {H : Hp} {d : Addr} {m : Pol} (e v : Int) (h : H d = some (.dK (kvOf m))) (n : (m.map (·.1)).Nodup) (hl : m.length ≤ 1000000) : DPut H d (.int e) (.int v) (upd H d (.dK (kvOf (put m e v)))) := by
  have := DPut.k (k := (Sum.inl e : Key)) (v := .int v) h (by rw [kv_len]; exact sl_lt hl)
  rw [kv_put n] at this
  exact this
/-! ### a def of the text by its name, and its call -/
structure Cal (P : Program) (w : World) (K : PySem.W.Frag) (mg : Str → Option Value) (base : Heap) (k : Nat) (x : Str) (sp : Sp) : Prop where
  ex : ∃ (f : Addr) (fd : FuncData) (ps : List Str), FnOk P w K mg base CX0 k f fd ps sp ∧ mg x = some (.ref f) ∧ PySem.W.keepIn K (.ref f) = true ∧ Binds K fd ps []
theorem pe_c {X : Cx} {k j : Nat} {x : Str} {sp : Sp} {p pos : Pos} {e : Expr} {es : List Expr} {t : TA} (c : Cal X.prog X.w X.K X.mg X.base k x sp) (hr : Room j X.A) (hk : k ≤ j) (hg : Gl X x) (ha : PA X (e :: es) t)
    (h1 : (x == ("__debug__" : Str)) = false := by decide) (h2 : starEach (e :: es) X.env = (false, eval e X.env) :: starEach es X.env := by rfl) (h3 : (backTo pos (starEach es X.env)).any (·.1) = false := by rfl) :
    PE X (.Call (.Name x p) (e :: es) [] pos) (tCall sp [] E0 t) := by
  obtain ⟨f, fd, ps, F, hm, kp, b⟩ := c.ex
  exact pe_call F (hr.mono hk) hg hm kp b .nil pass0 ha h1 h2 h3
/-! ### comprehensions that make pairs -/
section
variable {K : PySem.W.Frag} {a : Addr} {xs : List V} {f : Pol} {σ : L2.St} {H : Hp} {vs : List Nat} {n i j : Nat} {te : TE} {Q : VK}
/-- [(.., ..) for x, y in a tuple of pairs] -/
theorem lcT (G : Int × Int → Int × Int) (hv : σ[n]? = some (some (.ref a))) (hs : SqT K H a xs) (hP : Prs K H xs f) (hl : f.length ≤ 1000000)
    (hw : ∀ x y, wipe (((wipe σ vs).set i (some x)).set j (some y)) vs = wipe σ vs)
    (he : ∀ t ∈ f, ∀ H2, Same H H2 → ∀ R : VK, (∀ q, H2 q = none → R (.ref q) (upd H2 q (.tup [.int (G t).1, .int (G t).2]))) → te (((wipe σ vs).set i (some (.int t.1))).set j (some (.int t.2))) H2 R)
    (k : ∀ D H2, H D = none → Grow K H D (f.map G) H2 → Q (.ref D) H2) : tLc (iTup K (tVar n)) (gTup K 2 (gCons (gName i) (gCons (gName j) gNil))) tYes te vs σ H Q := by
  refine ⟨_, hv, a, rfl, ⟨_, hs⟩, fun D nD => lc_tup (K := K) (a := a) (xs := xs) (fun m H2 => Grow K H D ((f.take m).map G) H2) (.start nD) (fun m H2 _ g => same_t g.same hs) ?_ ?_⟩
  · intro m x H2 hm g
    obtain ⟨t, ht, b, rfl, hb⟩ := hP.get hm
    refine ⟨b, _, rfl, same_t g.same hb, rfl, _, _, rfl, _, _, rfl, rfl, hw _ _, ?_⟩
    dsimp only [tYes]
    rw [if_pos rfl]
    refine (he t (List.mem_of_getElem? ht) H2 g.same _ fun q nq => ?_)
    rw [take_snoc ht, List.map_append]
    refine g.step nD nq (G t).1 (G t).2 ?_
    have : m < f.length := (List.getElem?_eq_some_iff.mp ht).1
    rw [List.length_map, List.length_take]
    omega
  · intro H2 g
    rw [hP.len, List.take_length] at g
    exact k D H2 nD g
/-- the same over a list of pairs -/
theorem lcL (G : Int × Int → Int × Int) (hv : σ[n]? = some (some (.ref a))) (hs : SqL K H a xs) (hP : Prs K H xs f) (hl : f.length ≤ 1000000)
    (hw : ∀ x y, wipe (((wipe σ vs).set i (some x)).set j (some y)) vs = wipe σ vs)
    (he : ∀ t ∈ f, ∀ H2, Same H H2 → ∀ R : VK, (∀ q, H2 q = none → R (.ref q) (upd H2 q (.tup [.int (G t).1, .int (G t).2]))) → te (((wipe σ vs).set i (some (.int t.1))).set j (some (.int t.2))) H2 R)
    (k : ∀ D H2, H D = none → Grow K H D (f.map G) H2 → Q (.ref D) H2) : tLc (iList K (tVar n)) (gTup K 2 (gCons (gName i) (gCons (gName j) gNil))) tYes te vs σ H Q := by
  refine ⟨_, hv, a, rfl, ⟨_, hs⟩, fun D nD => lc_list (K := K) (a := a) (xs := xs) (fun m H2 => Grow K H D ((f.take m).map G) H2) (.start nD) (fun m H2 _ g => same_l g.same hs) ?_ ?_⟩
  · intro m x H2 hm g
    obtain ⟨t, ht, b, rfl, hb⟩ := hP.get hm
    refine ⟨b, _, rfl, same_t g.same hb, rfl, _, _, rfl, _, _, rfl, rfl, hw _ _, ?_⟩
    dsimp only [tYes]
    rw [if_pos rfl]
    refine (he t (List.mem_of_getElem? ht) H2 g.same _ fun q nq => ?_)
    rw [take_snoc ht, List.map_append]
    refine g.step nD nq (G t).1 (G t).2 ?_
    have : m < f.length := (List.getElem?_eq_some_iff.mp ht).1
    rw [List.length_map, List.length_take]
    omega
  · intro H2 g
    rw [hP.len, List.take_length] at g
    exact k D H2 nD g
/-- [(.., ..) for k in range(n)] -/
theorem lcR (G : Nat → Int × Int) {c : Int} {tn : TE} (hv : ∀ R : VK, R (.int c) H → tn σ H R) (h0 : 0 ≤ c) (hl : c ≤ 1000000)
    (hw : ∀ x, wipe ((wipe σ vs).set i (some x)) vs = wipe σ vs)
    (he : ∀ m, m < c.toNat → ∀ H2, Same H H2 → ∀ R : VK, (∀ q, H2 q = none → R (.ref q) (upd H2 q (.tup [.int (G m).1, .int (G m).2]))) → te ((wipe σ vs).set i (some (.int (0 + (m : Int))))) H2 R)
    (k : ∀ D H2, H D = none → Grow K H D ((List.range c.toNat).map G) H2 → Q (.ref D) H2) : tLc (iRng1 (tCons tn tNil)) (gName i) tYes te vs σ H Q := by
  refine hv _ ⟨c, rfl, by omega, by omega, fun D nD => lc_range (lo := 0) (n := c.toNat) (fun m H2 => Grow K H D ((List.range m).map G) H2) (.start nD) ?_ fun H2 g => k D H2 nD g⟩
  intro m H2 hm g
  refine ⟨hw _, ?_⟩
  dsimp only [tYes]
  rw [if_pos rfl]
  refine (he m hm H2 g.same _ fun q nq => ?_)
  rw [List.range_succ, List.map_append]
  refine g.step nD nq (G m).1 (G m).2 ?_
  rw [List.length_map, List.length_range]
  omega
end
theorem Grow.lpol {K : PySem.W.Frag} {H0 H : Hp} {D : Addr} {f : Pol} (g : Grow K H0 D f H) : LPol K H (.ref D) f := by
  obtain ⟨xs, h1, h2⟩ := g.ex
  exact ⟨D, xs, rfl, SqL.of h1, h2⟩
/-- tuple(the list of pairs) -/
theorem rd_tuple {K : PySem.W.Frag} {H0 H : Hp} {D : Addr} {f : Pol} {Q : VK} (g : Grow K H0 D f H) (k : ∀ v H', Same H0 H' → TPol K H' v f → Q v H') :
    ∃ p ys, [V.ref D] = [V.ref p] ∧ ((SqL K H p ys ∧ ∀ l, H l = none → Q (.ref l) (upd H l (.tup ys))) ∨ (SqT K H p ys ∧ Q (.ref p) H)) := by
  obtain ⟨xs, h1, h2⟩ := g.ex
  exact ⟨D, xs, rfl, .inl ⟨SqL.of h1, fun l nl => k _ _ (g.same.trans (same_new nl)) ⟨l, xs, rfl, SqT.of upd_same, Prs.tp (tp_new nl) h2⟩⟩⟩
/-! ### a def as the top leaves it -/
structure Df (K : PySem.W.Frag) (mg : Str → Option Value) (x : Str) (st : Stmt) : Prop where
  ex : ∃ (f : Addr) (fd : FuncData), Fun K x x st f fd ∧ mg x = some (.ref f) ∧ PySem.W.keepIn K (.ref f) = true
theorem df_mk {K : PySem.W.Frag} {h : Heap} {mg : Str → Option Value} {x : Str} {st : Stmt} {f : Addr} {oc : Value} {od an : Option Addr} {osl : Array (Option Value)} {kV doc pm cdv ct : Value} (X : K.In h) (G : h.Ns mainGlobals mg)
    (a : PySem.W.nsIn K mainGlobals x = some (some (.ref f))) (l : K.lookup f = some ⟨oc, od, .func (PySem.W.fnOf x x (defArgs st) (defBody st) (defScope st) .none kV doc pm an cdv ct), osl⟩) (c : PySem.W.codeIn K cdv x = true) (k : PySem.W.keepIn K (.ref f) = true) : Df K mg x st :=
  ⟨f, _, fun_mk (st := st) l c k, PySem.W.mg_of X G a, k⟩
theorem cal_of {P : Program} {w : World} {K : PySem.W.Frag} {mg : Str → Option Value} {base : Heap} {k : Nat} {x : Str} {st : Stmt} {ps : List Str} {sp : Sp} (D : Df K mg x st)
    (b : ∀ (kV doc pm : Value) (an : Option Addr) (cdv ct : Value) (us : List Value), us.length = ps.length → bindArgs (PySem.W.fnOf x x (defArgs st) (defBody st) (defScope st) .none kV doc pm an cdv ct) ⟨us, []⟩ = pure (ps.zip us))
    (ok : ∀ f fd, Fun K x x st f fd → FnOk P w K mg base CX0 k f fd ps sp) : Cal P w K mg base k x sp := by
  obtain ⟨f, fd, F, hm, kp⟩ := D.ex
  exact ⟨f, fd, ps, ok f fd F, hm, kp, F.binds b⟩
/-- the law's own def -/
theorem law_of {l : PySem.W.OpenLaw} {w : World} {K : PySem.W.Frag} {mg : Str → Option Value} {fa : Addr} {x y : Str} {st : Stmt} {sp : Sp} (hfa : mg x = some (.ref fa)) (D : Df K mg x st)
    (b : ∀ (kV doc pm : Value) (an : Option Addr) (cdv ct : Value) (s : Shared) (v : Value), BindsTo s (PySem.W.fnOf x x (defArgs st) (defBody st) (defScope st) .none kV doc pm an cdv ct) ⟨[v], []⟩ [(y, v)])
    (ok : ∀ (base : Heap) f fd, Fun K x x st f fd → Kept l.prog w K mg base f fd [y] sp) :
    ∃ fd : FuncData, (∀ (s : Shared) (v : Value), BindsTo s fd ⟨[v], []⟩ [(y, v)]) ∧ ∀ base : Heap, K.In base → base.Ns mainGlobals mg → Kept l.prog w K mg base fa fd [y] sp := by
  obtain ⟨f, fd, F, hm, kp⟩ := D.ex
  cases hfa.symm.trans hm
  refine ⟨fd, ?_, fun base _ _ => ok base fa fd F⟩
  obtain ⟨_, _, kV, doc, pm, an, cdv, ct, _, rfl, _⟩ := F.ex
  exact b kV doc pm an cdv ct
theorem gName_app {i : Nat} {v : V} {σ : L2.St} {H : Hp} {Q : L2.St → Hp → Prop} : gName i v σ H Q = Q (σ.set i (some v)) H := rfl
end DR
namespace DR
open PySem PySem.Spec PyProof.Rows L2
/-! ### the pen that draws from the script -/
theorem n_cu : ¬ ((Sum.inr ("cells" : Str) : Key) = Sum.inr ("used" : Str)) := by decide +kernel
theorem n_cl : ¬ ((Sum.inr ("cells" : Str) : Key) = Sum.inr ("left" : Str)) := by decide +kernel
theorem n_ul : ¬ ((Sum.inr ("used" : Str) : Key) = Sum.inr ("left" : Str)) := by decide +kernel
theorem n_uc : ¬ ((Sum.inr ("used" : Str) : Key) = Sum.inr ("cells" : Str)) := by decide +kernel
theorem n_lc : ¬ ((Sum.inr ("left" : Str) : Key) = Sum.inr ("cells" : Str)) := by decide +kernel
theorem n_lu : ¬ ((Sum.inr ("left" : Str) : Key) = Sum.inr ("used" : Str)) := by decide +kernel
def penKv (c : Addr) (u l : Int) : List (Key × V) := [(Sum.inr ("cells" : Str), .ref c), (Sum.inr ("used" : Str), .int u), (Sum.inr ("left" : Str), .int l)]
section
variable (c : Addr) (u l x : Int)
theorem pen_cells : valV (penKv c u l) (Sum.inr ("cells" : Str) : Key) = some (.ref c) := valV_pos rfl
theorem pen_used : valV (penKv c u l) (Sum.inr ("used" : Str) : Key) = some (.int u) := by
  unfold penKv
  rw [valV_neg n_cu, valV_pos rfl]
theorem pen_left : valV (penKv c u l) (Sum.inr ("left" : Str) : Key) = some (.int l) := by
  unfold penKv
  rw [valV_neg n_cl, valV_neg n_ul, valV_pos rfl]
theorem pen_setU : putK (penKv c u l) (Sum.inr ("used" : Str) : Key) (.int x) = penKv c x l := by
  unfold putK
  rw [valV_any, pen_used, if_pos (by rfl)]
  unfold penKv
  rw [List.map_cons, List.map_cons, List.map_cons, List.map_nil, if_neg n_cu, if_pos rfl, if_neg n_lu]
theorem pen_setL : putK (penKv c u l) (Sum.inr ("left" : Str) : Key) (.int x) = penKv c u x := by
  unfold putK
  rw [valV_any, pen_left, if_pos (by rfl)]
  unfold penKv
  rw [List.map_cons, List.map_cons, List.map_cons, List.map_nil, if_neg n_cl, if_neg n_ul, if_pos rfl]
theorem pen_merge : mergeK [] (penKv c u l) = penKv c u l := by
  have e1 : putK ([] : List (Key × V)) (Sum.inr ("cells" : Str)) (.ref c) = [(Sum.inr ("cells" : Str), .ref c)] := putK_new _ valV_nil
  have e2 : putK ([(Sum.inr ("cells" : Str), .ref c)] : List (Key × V)) (Sum.inr ("used" : Str)) (.int u) = [(Sum.inr ("cells" : Str), .ref c), (Sum.inr ("used" : Str), .int u)] := putK_new _ (by rw [valV_neg n_cu]; exact valV_nil)
  have e3 : putK ([(Sum.inr ("cells" : Str), .ref c), (Sum.inr ("used" : Str), .int u)] : List (Key × V)) (Sum.inr ("left" : Str)) (.int l) = penKv c u l := putK_new _ (by rw [valV_neg n_cl, valV_neg n_ul]; exact valV_nil)
  show putK (putK (putK ([] : List (Key × V)) (Sum.inr ("cells" : Str)) (.ref c)) (Sum.inr ("used" : Str)) (.int u)) (Sum.inr ("left" : Str)) (.int l) = _
  rw [e1, e2, e3]
end
/-- a pen at p, its cells at c, that has drawn at most n numbers -/
structure PenAt (H : Hp) (p c : Addr) (n : Nat) : Prop where
  ex : ∃ (ns : List Int) (u l : Int), H p = some (.dK (penKv c u l)) ∧ H c = some (.lst (ns.map V.int)) ∧ 0 ≤ u ∧ u ≤ n
section
variable {H H' : Hp} {p c : Addr} {n m : Nat}
theorem PenAt.dict (h : PenAt H p c n) : ∃ kvs, H p = some (.dK kvs) := by
  obtain ⟨ns, u, l, h1, _⟩ := h.ex
  exact ⟨_, h1⟩
theorem PenAt.cells (h : PenAt H p c n) : ∃ xs, H c = some (.lst xs) := by
  obtain ⟨ns, u, l, _, h2, _⟩ := h.ex
  exact ⟨_, h2⟩
theorem PenAt.np {q : Addr} (h : PenAt H p c n) (hq : H q = none) : q ≠ p := (h.dict.elim fun _ e => ne_of_none e hq).symm
theorem PenAt.nc {q : Addr} (h : PenAt H p c n) (hq : H q = none) : q ≠ c := (h.cells.elim fun _ e => ne_of_none e hq).symm
theorem PenAt.mono (h : PenAt H p c n) (e : n ≤ m) : PenAt H p c m := by
  obtain ⟨ns, u, l, h1, h2, h3, h4⟩ := h.ex
  exact ⟨ns, u, l, h1, h2, h3, by omega⟩
theorem PenAt.same (h : PenAt H p c n) (s : Same H H') : PenAt H' p c n := by
  obtain ⟨ns, u, l, h1, h2, h3⟩ := h.ex
  exact ⟨ns, u, l, s _ _ h1, s _ _ h2, h3⟩
/-- another object changes -/
theorem PenAt.upd {q : Addr} {o : HO} (h : PenAt H p c n) (h1 : q ≠ p) (h2 : q ≠ c) : PenAt (upd H q o) p c n := by
  obtain ⟨ns, u, l, a1, a2, a3⟩ := h.ex
  exact ⟨ns, u, l, by rw [upd_ne h1.symm]; exact a1, by rw [upd_ne h2.symm]; exact a2, a3⟩
theorem PenAt.tp (h : PenAt H p c n) (k : Kp p H H') : Tp H H' := h.dict.elim fun _ e => k.tp e
end
end DR
namespace DR
open PySem PySem.Spec PyProof.Rows L2
/-! ### what the defs promise -/
/-- a polynomial of the law's: canonical, with at most so many terms, its exponents within reach -/
structure Drawn (q : Int) (g : Pol) (terms : Nat) (reach : Int) : Prop where
  nf : Nf q g (cf g)
  len : g.length ≤ terms
  abs : ∀ t ∈ g, t.1.natAbs ≤ reach.natAbs
def primes : List Int := [2, 3, 5, 7, 11, 13, 17, 19, 23, 29, 31, 37, 41, 43, 47, 53, 59, 61, 67, 71, 73, 79, 83, 89, 97]
theorem prime_rng : ∀ q ∈ primes, 2 ≤ q ∧ q ≤ 97 := by decide
def sp_from_sums (K : PySem.W.Frag) : Sp := fun vs H Q _ => ∃ (p : Int) (d : Addr) (m : Pol), vs = [.int p, .ref d] ∧ 0 < p ∧ H d = some (.dK (kvOf m)) ∧ (m.map (·.1)).Nodup ∧ m.length ≤ 1000000 ∧ ∀ v H' g, Same H H' → TPol K H' v g → Nf p g (cf m) → Q v H'
def sp_normalize (K : PySem.W.Frag) : Sp := fun vs H Q _ => ∃ (p : Int) (v : V) (ps : Pol), vs = [.int p, v] ∧ 0 < p ∧ (TPol K H v ps ∨ LPol K H v ps) ∧ ps.length ≤ 1000000 ∧ ∀ u H' g, Same H H' → TPol K H' u g → Nf p g (cf ps) → Q u H'
def sp_scale (K : PySem.W.Frag) : Sp := fun vs H Q _ => ∃ (p : Int) (v : V) (f : Pol) (c : Int), vs = [.int p, v, .int c] ∧ 0 < p ∧ TPol K H v f ∧ f.length ≤ 1000000 ∧ (∀ t ∈ f, -(2 ^ 64) < t.2 ∧ t.2 < 2 ^ 64) ∧ ∀ u H' g, Same H H' → TPol K H' u g → Nf p g (fun e => cf f e * c) → Q u H'
def sp_move (K : PySem.W.Frag) : Sp := fun vs H Q _ => ∃ (v : V) (f : Pol) (n : Int), vs = [v, .int n] ∧ TPol K H v f ∧ f.length ≤ 1000000 ∧ ∀ u H', Same H H' → TPol K H' u (moved n f) → Q u H'
def sp_geometric (K : PySem.W.Frag) : Sp := fun vs H Q _ => ∃ (p n s : Int), vs = [.int p, .int n, .int s] ∧ 0 < p ∧ 0 ≤ n ∧ n ≤ 1000000 ∧ ∀ u H' g, Same H H' → TPol K H' u g → Nf p g (cf (rounds n.toNat s)) → Q u H'
def sp_add (K : PySem.W.Frag) : Sp := fun vs H Q _ => ∃ (p : Int) (v1 v2 : V) (f g : Pol), vs = [.int p, v1, v2] ∧ 0 < p ∧ TPol K H v1 f ∧ TPol K H v2 g ∧ f.length + g.length ≤ 1000000 ∧ ∀ u H' r, Same H H' → TPol K H' u r → Nf p r (fun e => cf f e + cf g e) → Q u H'
def sp_subtract (K : PySem.W.Frag) : Sp := fun vs H Q _ => ∃ (p : Int) (v1 v2 : V) (f g : Pol), vs = [.int p, v1, v2] ∧ 0 < p ∧ TPol K H v1 f ∧ TPol K H v2 g ∧ f.length + g.length ≤ 1000000 ∧ (∀ t ∈ g, -(2 ^ 64) < t.2 ∧ t.2 < 2 ^ 64) ∧ ∀ u H' r, Same H H' → TPol K H' u r → Nf p r (fun e => cf f e - cf g e) → Q u H'
def sp_multiply (K : PySem.W.Frag) : Sp := fun vs H Q _ => ∃ (p : Int) (v1 v2 : V) (f g : Pol), vs = [.int p, v1, v2] ∧ 0 < p ∧ TPol K H v1 f ∧ TPol K H v2 g ∧ f.length * g.length ≤ 1000000 ∧ (∀ t ∈ f, -(2 ^ 64) < t.2 ∧ t.2 < 2 ^ 64) ∧ ∀ u H' r, Same H H' → TPol K H' u r → Nf p r (cf (prods f g)) → Q u H'
def sp__law_pen (K : PySem.W.Frag) : Sp := fun vs H Q _ => ∃ (a : Addr) (ns : List Int), vs = [.ref a] ∧ SqL K H a (ns.map V.int) ∧ ∀ p c H', H p = none → Same H H' → PenAt H' p c 0 → Q (.ref p) H'
def sp__law_draw : Sp := fun vs H Q _ => ∃ (p c : Addr) (many : Int) (n : Nat), vs = [.ref p, .int many] ∧ 0 < many ∧ many.natAbs < 2 ^ 400 ∧ PenAt H p c n ∧ n < 2 ^ 40 ∧ ∀ r H', 0 ≤ r → r < many → Kp p H H' → PenAt H' p c (n + 1) → Q (.int r) H'
def sp__law_pick : Sp := fun vs H Q _ => ∃ (p c o : Addr) (n : Nat) (xs : List V), vs = [.ref p, .ref o] ∧ PenAt H p c n ∧ n < 2 ^ 40 ∧ H o = some (.lst xs) ∧ 0 < xs.length ∧ xs.length ≤ 100000 ∧ ∀ v H', v ∈ xs → Kp p H H' → PenAt H' p c (n + 1) → Q v H'
def sp__law_prime : Sp := fun vs H Q _ => ∃ (p c : Addr) (n : Nat), vs = [.ref p] ∧ PenAt H p c n ∧ n + 2 < 2 ^ 40 ∧ ∀ q H', q ∈ primes → Kp p H H' → PenAt H' p c (n + 2) → Q (.int q) H'
def sp__law_integer : Sp := fun vs H Q _ => ∃ (p c : Addr) (most : Int) (n : Nat), vs = [.ref p, .int most] ∧ 0 ≤ most ∧ most.natAbs < 10 ^ 90 ∧ PenAt H p c n ∧ n < 2 ^ 40 ∧ ∀ r H', r.natAbs ≤ most.natAbs → Kp p H H' → PenAt H' p c (n + 1) → Q (.int r) H'
def sp__law_polynomial (K : PySem.W.Frag) : Sp := fun vs H Q _ => ∃ (p c : Addr) (q terms reach : Int) (n : Nat), vs = [.ref p, .int q, .int terms, .int reach] ∧ 2 ≤ q ∧ q ≤ 97 ∧ 0 ≤ terms ∧ terms ≤ 1000 ∧ 0 ≤ reach ∧ reach.natAbs < 10 ^ 90 ∧ PenAt H p c n ∧ n < 2 ^ 39 ∧
  ∀ v H' g, Kp p H H' → PenAt H' p c (n + 2 * terms.toNat + 1) → TPol K H' v g → Drawn q g terms.toNat reach → Q v H'
theorem mul_room {i j a b : Nat} (hi : i < a) (hj : j < b) (h : a * b ≤ 1000000) : i * b + j < 1000000 := by
  have h1 : (i + 1) * b ≤ a * b := Nat.mul_le_mul_right b hi
  rw [Nat.add_mul, Nat.one_mul] at h1
  omega
theorem neg_mod (a b c p : Int) (h : c = b * -1 % p) : (a + c) % p = (a - b) % p := by
  rw [h, Int.add_emod_emod]
  congr 1
  omega
theorem sm_nf {q : Int} {g : Pol} {F : Int → Int} {L : List Int} (h : Nf q g F) (hq : q ≤ 97) (z : ∀ e, e ∉ L → F e % q = 0) (hl : L.length ≤ 50000) (hb : ∀ e ∈ L, e.natAbs < 10 ^ 100) : Sm g := by
  refine ⟨Nat.le_trans (h.len z) hl, fun t ht => ⟨hb _ (h.sub z t ht), ?_⟩⟩
  have := h.rng t ht
  exact Nat.lt_of_le_of_lt (show t.2.natAbs ≤ 97 by omega) (by decide +kernel)
theorem sm_moved {g : Pol} {n : Int} {q : Int} (hl : g.length ≤ 50000) (hb : ∀ t ∈ g, t.1.natAbs < 10 ^ 95 ∧ 0 < t.2 ∧ t.2 ≤ 97) (hn : n.natAbs < 10 ^ 95) : Sm (moved n g) := by
  refine ⟨by unfold moved; rw [List.length_map]; exact hl, fun t ht => ?_⟩
  obtain ⟨u, hu, rfl⟩ := List.mem_map.mp (show t ∈ g.map fun t => (t.1 + n, t.2) from ht)
  have h1 := hb u hu
  refine ⟨?_, Nat.lt_of_le_of_lt (show u.2.natAbs ≤ 97 by omega) (by decide +kernel)⟩
  have e : 10 ^ 95 + 10 ^ 95 < 10 ^ 100 := by decide +kernel
  show (u.1 + n).natAbs < 10 ^ 100
  omega
theorem drawn_sm {q : Int} {g : Pol} {terms : Nat} {reach : Int} (d : Drawn q g terms reach) (hq : q ≤ 97) (ht : terms ≤ 50000) (hr : reach.natAbs < 10 ^ 90) : Sm g := by
  refine ⟨Nat.le_trans d.len ht, fun t h => ⟨?_, ?_⟩⟩
  · have e : 10 ^ 90 < 10 ^ 100 := by decide +kernel
    have := d.abs t h
    omega
  · have := d.nf.rng t h
    exact Nat.lt_of_le_of_lt (show t.2.natAbs ≤ 97 by omega) (by decide +kernel)
theorem mem_ints {v : V} {ns : List Int} {R : Int → Prop} (h : v ∈ ns.map V.int) (a : ∀ x ∈ ns, R x) : ∃ x, v = .int x ∧ R x := by
  obtain ⟨x, hx, rfl⟩ := List.mem_map.mp h
  exact ⟨x, rfl, a x hx⟩
def sp_law (K : PySem.W.Frag) : Sp := fun vs H Q _ => ∃ (a : Addr) (ns : List Int), vs = [.ref a] ∧ SqL K H a (ns.map V.int) ∧ ns.length ≤ 63 ∧ ∀ H', Q (.bl true) H'
/-! ### effects -/
def TEff (K : PySem.W.Frag) (H : Hp) (v : V) (f : Pol) (n : Int) : Prop := ∃ a x, v = .ref a ∧ SqT K H a [x, .int n] ∧ TPol K H x f
theorem TEff.tp {K : PySem.W.Frag} {H H' : Hp} {v : V} {f : Pol} {n : Int} (e : Tp H H') (h : TEff K H v f n) : TEff K H' v f n := by
  obtain ⟨a, x, rfl, hs, hx⟩ := h
  exact ⟨a, x, rfl, tp_t e hs, hx.tp e⟩
def ed (f : Pol) (n : Int) : PyData := .tuple [pd f, .int n]
theorem TEff.dp {K : PySem.W.Frag} {H : Hp} {v : V} {f : Pol} {n : Int} (h : TEff K H v f n) : Dp K H v (ed f n) := by
  obtain ⟨a, x, rfl, hs, hx⟩ := h
  exact .tup hs (.cons hx.dp (.cons (.int _) .nil))
theorem TEff.shows {K : PySem.W.Frag} {H : Hp} {v : V} {f : Pol} {n : Int} (h : TEff K H v f n) (s : Sm f) (hn : n.natAbs < 10 ^ 100) : Shows K H v (ed f n) := by
  obtain ⟨a1, a2, a3, a4⟩ := pd_shows s
  obtain ⟨b1, b2⟩ := int_shows hn
  have := s.len
  refine ⟨h.elim fun a z => z.elim fun _ y => ⟨a, y.1⟩, h.dp, ?_, ?_, ?_, ?_⟩
  · show ((pd f).showable && ((PyData.int n).showable && true)) = true
    rw [a1, b1]
    rfl
  · show ((pd f).hasDict || (false || false)) = false
    rw [a2]
    rfl
  · show max (pd f).depth (max 0 0) + 1 ≤ 64
    omega
  · show (tupleText [(pd f).shown, (PyData.int n).shown]).length ≤ sizeLine
    have e := tupleText_len_le [(pd f).shown, (PyData.int n).shown]
    simp only [List.map_cons, List.map_nil, List.sum_cons, List.sum_nil, List.length_cons, List.length_nil] at e
    rw [sizeLine_eq]
    omega
theorem ed_shaped (f : Pol) (n : Int) : SeqAt.shaped (ed f n) = true := by
  obtain ⟨a, b⟩ := prs_lay f
  show (((PyData.canLayAll0 (f.map pr)) && (true && true)) && decide (max (PyData.depthAll (f.map pr) + 1) (max 0 0) + 1 ≤ 64)) = true
  rw [a, decide_eq_true (by omega)]
  rfl
def sp_compose (K : PySem.W.Frag) : Sp := fun vs H Q _ => ∃ (p : Int) (v1 v2 : V) (f g : Pol) (m n : Int), vs = [.int p, v1, v2] ∧ 0 < p ∧ TEff K H v1 f m ∧ TEff K H v2 g n ∧ f.length + g.length ≤ 1000000 ∧ ∀ u H' r, Same H H' → TEff K H' u r (m + n) → Nf p r (fun e => cf f e + cf g (e - m)) → Q u H'
def sp_inverse (K : PySem.W.Frag) : Sp := fun vs H Q _ => ∃ (p : Int) (v : V) (f : Pol) (m : Int), vs = [.int p, v] ∧ 0 < p ∧ TEff K H v f m ∧ f.length ≤ 1000000 ∧ (∀ t ∈ f, -(2 ^ 64) < t.2 ∧ t.2 < 2 ^ 64) ∧ ∀ u H' r, Same H H' → TEff K H' u r (-m) → Nf p r (fun e => cf f (e + m) * -1) → Q u H'
def sp__law_effect (K : PySem.W.Frag) : Sp := fun vs H Q _ => ∃ (p c : Addr) (q terms reach : Int) (n : Nat), vs = [.ref p, .int q, .int terms, .int reach] ∧ 2 ≤ q ∧ q ≤ 97 ∧ 0 ≤ terms ∧ terms ≤ 1000 ∧ 0 ≤ reach ∧ reach.natAbs < 10 ^ 90 ∧ PenAt H p c n ∧ n < 2 ^ 38 ∧
  ∀ v H' g sh, Kp p H H' → PenAt H' p c (n + 2 * terms.toNat + 3) → TEff K H' v g sh → Drawn q g terms.toNat reach → sh.natAbs ≤ reach.natAbs → Q v H'
theorem atI3 {a b c : V} {r : Int} (h0 : 0 ≤ r) (h9 : r < 3) : atI [a, b, c] r = some a ∨ atI [a, b, c] r = some b ∨ atI [a, b, c] r = some c := by
  have : r = 0 ∨ r = 1 ∨ r = 2 := by omega
  rcases this with rfl | rfl | rfl
  · exact .inl rfl
  · exact .inr (.inl rfl)
  · exact .inr (.inr rfl)
theorem moved_len (n : Int) (f : Pol) : (moved n f).length = f.length := by
  unfold moved
  rw [List.length_map]
/-! ### a comprehension that draws -/
theorem lcPen {K : PySem.W.Frag} {p c : Addr} {σ : L2.St} {H : Hp} {vs : List Nat} {i : Nat} {te : TE} {Q : VK} (R : Hp → V → Prop) (stay : ∀ {H H' : Hp} {v : V}, Tp H H' → R H v → R H' v) (n : Nat) {z : Int} (hz : z = (n : Int)) (b cost : Nat) (hn : n ≤ 1000)
    (hw : ∀ x, wipe ((wipe σ vs).set i (some x)) vs = wipe σ vs) (pen : PenAt H p c b)
    (he : ∀ (m : Nat), m < n → ∀ H2, Kp p H H2 → PenAt H2 p c (b + cost * m) → ∀ S : VK, (∀ v H3, Kp p H2 H3 → PenAt H3 p c (b + cost * (m + 1)) → R H3 v → S v H3) → te ((wipe σ vs).set i (some (.int (0 + (m : Int))))) H2 S)
    (k : ∀ D xs H2, xs.length = n → H2 D = some (.lst xs) → (∀ v ∈ xs, R H2 v) → Kp p H H2 → PenAt H2 p c (b + cost * n) → Q (.ref D) H2) : tLc (iRng1 (tCons (tC (.int z)) tNil)) (gName i) tYes te vs σ H Q := by
  subst hz
  refine ⟨(n : Int), rfl, by omega, by omega, fun D nD => lc_range (lo := 0) (n := ((n : Int)).toNat) (fun m H2 => ∃ xs, H2 D = some (.lst xs) ∧ xs.length = m ∧ (∀ v ∈ xs, R H2 v) ∧ Kp p H H2 ∧ PenAt H2 p c (b + cost * m)) ⟨[], upd_same, rfl, fun v h => absurd h List.not_mem_nil, Same.kp (same_new nD), pen.same (same_new nD)⟩ ?_ ?_⟩
  · rintro m H2 hm ⟨xs, hD, hl, hR, kp, pen2⟩
    refine ⟨hw _, ?_⟩
    dsimp only [tYes]
    rw [if_pos rfl]
    refine he m (by omega) H2 kp pen2 _ fun v H3 k3 pen3 hv => ?_
    have npD := pen.np nD
    have ncD := pen.nc nD
    have hD3 : H3 D = some (.lst xs) := k3 _ _ npD hD
    refine ⟨xs, hD3, sl_lt (by omega), xs ++ [v], upd_same, by rw [List.length_append, hl]; rfl, fun w hw' => ?_, fun x o nx ex => ?_, pen3.upd npD ncD⟩
    · have t3 : Tp H3 (upd H3 D (.lst (xs ++ [v]))) := tp_lst hD3
      rcases List.mem_append.mp hw' with h | h
      · exact stay ((pen2.tp k3).trans t3) (hR w h)
      · have e : w = v := by simpa using h
        rw [e]
        exact stay t3 hv
    · rw [upd_ne (ne_of_none ex nD)]
      exact k3 _ _ nx (kp _ _ nx ex)
  · rintro H2 ⟨xs, hD, hl, hR, kp, pen2⟩
    exact k D xs H2 (by rw [hl]; omega) hD hR kp (pen2.mono (by rw [Int.toNat_natCast]; exact Nat.le_refl _))
theorem three {α : Type} {xs : List α} (h : xs.length = 3) : ∃ a b c, xs = [a, b, c] := by
  match xs, h with
  | [a, b, c], _ => exact ⟨a, b, c, rfl⟩
/-! ### comparisons of data -/
theorem iteE {A B : Prop} (r : Pol) (h : B) : if (!PyData.eqv (pd r) (pd r)) = true then A else B := by
  rw [SeqAt.eqv_refl _ (SeqAt.canLay_of_shaped (pd_shaped r))]
  exact iteF h
theorem iteEE {A B : Prop} (r : Pol) (n : Int) (h : B) : if (!PyData.eqv (ed r n) (ed r n)) = true then A else B := by
  rw [SeqAt.eqv_refl _ (SeqAt.canLay_of_shaped (ed_shaped r n))]
  exact iteF h
theorem eqv_nil (f : Pol) : PyData.eqv (pd f) (pd []) = decide (f = []) := by
  cases f with
  | nil => rfl
  | cons t r => rfl
theorem Nf.cfs {q : Int} {g : Pol} {F : Int → Int} (h : Nf q g F) (hq : q ≤ 97) : ∀ t ∈ g, -(2 ^ 64) < t.2 ∧ t.2 < 2 ^ 64 := fun t ht => by
  have := h.rng t ht
  omega
theorem len_add {q : Int} {f g r : Pol} (N : Nf q r (fun e => cf f e + cf g e)) : r.length ≤ f.length + g.length := by
  have := N.len (L := f.map (·.1) ++ g.map (·.1)) fun e he => by
    rw [cf_out (fun z => he (List.mem_append_left _ z)), cf_out (fun z => he (List.mem_append_right _ z))]
    rfl
  rw [List.length_append, List.length_map, List.length_map] at this
  exact this
theorem len_sub {q : Int} {f g r : Pol} (N : Nf q r (fun e => cf f e - cf g e)) : r.length ≤ f.length + g.length := by
  have := N.len (L := f.map (·.1) ++ g.map (·.1)) fun e he => by
    rw [cf_out (fun z => he (List.mem_append_left _ z)), cf_out (fun z => he (List.mem_append_right _ z))]
    rfl
  rw [List.length_append, List.length_map, List.length_map] at this
  exact this
theorem len_mul {q : Int} {f g r : Pol} (N : Nf q r (cf (prods f g))) : r.length ≤ f.length * g.length := by
  have := N.len (L := (prods f g).map (·.1)) fun e he => by
    rw [cf_out he]
    rfl
  rw [List.length_map, prods_len] at this
  exact this
theorem len_scale {q k : Int} {f r : Pol} (N : Nf q r (fun e => cf f e * k)) : r.length ≤ f.length := by
  have := N.len (L := f.map (·.1)) fun e he => by
    rw [cf_out he, Int.zero_mul]
    rfl
  rw [List.length_map] at this
  exact this
theorem nf_nil {q : Int} {F : Int → Int} (h : ∀ e, F e % q = 0) : Nf q [] F := ⟨.nil, fun t h => absurd h List.not_mem_nil, fun e => by rw [h]; rfl⟩
theorem nz_check : (primes.all fun q => (List.range q.toNat).all fun a => (List.range q.toNat).all fun b => a == 0 || b == 0 || (a * b % q.toNat != 0)) = true := by decide +kernel
theorem prime_nz {q : Int} (hq : q ∈ primes) {a b : Int} (ha : 0 < a) (ha' : a < q) (hb : 0 < b) (hb' : b < q) : a * b % q ≠ 0 := by
  intro h
  have h1 := List.all_eq_true.mp nz_check q hq
  have h2 := List.all_eq_true.mp h1 a.toNat (List.mem_range.mpr (by omega))
  have h3 := List.all_eq_true.mp h2 b.toNat (List.mem_range.mpr (by omega))
  simp only [Bool.or_eq_true, beq_iff_eq, bne_iff_ne, ne_eq] at h3
  rcases h3 with (h3 | h3) | h3
  · omega
  · omega
  · apply h3
    have e : ((a.toNat * b.toNat % q.toNat : Nat) : Int) = a * b % q := by
      rw [Int.natCast_emod, Int.natCast_mul, Int.toNat_of_nonneg (by omega), Int.toNat_of_nonneg (by omega), Int.toNat_of_nonneg (by omega)]
    rw [h] at e
    omega
theorem nf_one {q e c : Int} (h1 : 0 < c) (h2 : c < q) : Nf q [(e, c)] (cf [(e, c)]) := by
  refine ⟨List.pairwise_singleton _ _, fun t h => ?_, fun x => ?_⟩
  · have : t = (e, c) := by simpa using h
    rw [this]
    exact ⟨h1, h2⟩
  · rw [cf_cons, cf_nil]
    by_cases h : e = x
    · rw [if_pos h, Int.add_zero, Int.emod_eq_of_lt (by omega) h2]
    · rw [if_neg h]
      rfl
theorem len_rounds {q st : Int} {n : Nat} {r : Pol} {L : Nat} (N : Nf q r (cf (rounds n st))) (h : n ≤ L) : r.length ≤ L := by
  have := N.len (L := (rounds n st).map (·.1)) fun e he => by
    rw [cf_out he]
    rfl
  unfold rounds at this
  rw [List.length_map, List.length_map, List.length_range] at this
  omega
theorem len_comp {q m : Int} {f g r : Pol} (N : Nf q r (fun e => cf f e + cf g (e - m))) : r.length ≤ f.length + g.length := by
  have N' : Nf q r (fun e => cf f e + cf (moved m g) e) := N.to fun e => by rw [cf_moved]
  have := len_add N'
  rw [moved_len] at this
  exact this
theorem len_inv {q m : Int} {f r : Pol} (N : Nf q r (fun e => cf f (e + m) * -1)) : r.length ≤ f.length := by
  have N' : Nf q r (fun e => cf (moved (-m) f) e * -1) := N.to fun e => by rw [cf_moved, Int.sub_neg]
  have := len_scale N'
  rw [moved_len] at this
  exact this
theorem teff_sh {K : PySem.W.Frag} {H : Hp} {v : V} {f : Pol} {m n : Int} (e : m = n) (h : TEff K H v f m) : TEff K H v f n := by
  rw [← e]
  exact h
theorem undo_add (a b q : Int) : ((a + b) % q - b) % q = a % q := by
  rw [Int.sub_emod, Int.emod_emod, ← Int.sub_emod]
  congr 1
  omega
theorem geo_close {q st cnt : Int} {gap geo : Pol} (Ng : Nf q gap (fun e => cf [(0, 1)] e - cf [(st, 1)] e)) (No : Nf q geo (cf (rounds cnt.toNat st))) (h0 : 0 ≤ cnt) (e : Int) : cf (prods gap geo) e % q = (cf [(0, 1)] e - cf [(cnt * st, 1)] e) % q := by
  rw [cf_prods, conv_fst (f' := [(0, 1), (st, -1)]) (fun x => ?_) geo e, conv_mod (G' := cf (rounds cnt.toNat st)) (fun x => by rw [No.cof, Int.emod_emod])]
  · show (1 * cf (rounds cnt.toNat st) (e - 0) + (-1 * cf (rounds cnt.toNat st) (e - st) + 0)) % q = ((if 0 = e then 1 else 0) + 0 - ((if cnt * st = e then 1 else 0) + 0)) % q
    have h := rounds_tel st e cnt.toNat
    rw [Int.toNat_of_nonneg h0] at h
    congr 1
    rw [Int.sub_zero]
    omega
  · rw [Ng.cof, Int.emod_emod]
    congr 1
    show (if 0 = x then 1 else 0) + 0 - ((if st = x then 1 else 0) + 0) = (if 0 = x then 1 else 0) + ((if st = x then -1 else 0) + 0)
    by_cases h : st = x
    · rw [if_pos h, if_pos h]
      omega
    · rw [if_neg h, if_neg h]
      omega
theorem prod_ne {q : Int} {f g r : Pol} (hq : q ∈ primes) (nf : Nf q f (cf f)) (ng : Nf q g (cf g)) (nr : Nf q r (cf (prods f g))) (hf : f ≠ []) (hg : g ≠ []) : r ≠ [] := by
  intro hr
  obtain ⟨t, f', rfl⟩ := List.exists_cons_of_ne_nil hf
  obtain ⟨u, g', rfl⟩ := List.exists_cons_of_ne_nil hg
  have h := nr.cof (t.1 + u.1)
  rw [hr, cf_prods, conv_least nf.asc ng.asc] at h
  have a := nf.rng t List.mem_cons_self
  have b := ng.rng u List.mem_cons_self
  exact prime_nz hq a.1 a.2 b.1 b.2 h.symm
def sp_power0 (K : PySem.W.Frag) : Sp := fun vs H Q _ => ∃ (p : Int) (v : V) (f : Pol) (m c : Int), vs = [.int p, v, .int c] ∧ 0 < p ∧ TEff K H v f m ∧ 0 ≤ c ∧ c.natAbs ≤ 1000 ∧ f.length ≤ 1000 ∧ (∀ t ∈ f, -(2 ^ 64) < t.2 ∧ t.2 < 2 ^ 64) ∧ ∀ u H' r, Same H H' → TEff K H' u r (c * m) → Nf p r (fun e => pwF (cf f) m c e) → r.length ≤ f.length * c.natAbs → Q u H'
def sp_power (K : PySem.W.Frag) : Sp := fun vs H Q _ => ∃ (p : Int) (v : V) (f : Pol) (m c : Int), vs = [.int p, v, .int c] ∧ 0 < p ∧ p ≤ 97 ∧ TEff K H v f m ∧ c.natAbs ≤ 1000 ∧ f.length ≤ 1000 ∧ (∀ t ∈ f, -(2 ^ 64) < t.2 ∧ t.2 < 2 ^ 64) ∧ ∀ u H' r, Same H H' → TEff K H' u r (c * m) → Nf p r (fun e => pwF (cf f) m c e) → r.length ≤ f.length * c.natAbs → Q u H'
/-- order, of an effect that does not move -/
def sp_order (K : PySem.W.Frag) : Sp := fun vs H Q _ => ∃ (p : Int) (v : V) (f : Pol), vs = [.int p, v] ∧ TEff K H v f 0 ∧ Q (.int (if f = [] then 1 else p)) H
theorem Nf.subP {p : Int} {g : Pol} {F : Int → Int} {R : Int → Prop} (a : Nf p g F) (h : ∀ e, ¬ R e → F e % p = 0) : ∀ t ∈ g, R t.1 := fun t ht => by
  refine Classical.byContradiction fun n => ?_
  have e1 := a.cof t.1
  rw [cf_mem a.asc t ht, h _ n] at e1
  have := (a.rng t ht).1
  omega
theorem pow_sm {q m c : Int} {f r : Pol} (N : Nf q r (fun e => pwF (cf f) m c e)) (hq : q ≤ 97) (l : r.length ≤ 50000) (hf : ∀ t ∈ f, t.1.natAbs < 10 ^ 90) (hm : m.natAbs < 10 ^ 90) (hc : c.natAbs ≤ 1000) : Sm r := by
  refine ⟨l, fun t ht => ⟨N.subP (R := fun e => e.natAbs < 10 ^ 100) (fun e he => ?_) t ht, ?_⟩⟩
  · rw [pw_far c fun k hk => ?_]
    · rfl
    · refine cf_none f _ fun u hu z => he ?_
      have h1 := hf u hu
      have h2 : (k * m).natAbs ≤ 1000 * 10 ^ 90 := by
        rw [Int.natAbs_mul]
        exact Nat.mul_le_mul (Nat.le_trans hk hc) (Nat.le_of_lt hm)
      have h3 : 1000 * 10 ^ 90 + 10 ^ 90 < 10 ^ 100 := by decide +kernel
      have h4 : e = u.1 + k * m := by omega
      rw [h4]
      generalize k * m = km at h2
      omega
  · have := N.rng t ht
    exact Nat.lt_of_le_of_lt (show t.2.natAbs ≤ 97 by omega) (by decide +kernel)
end DR
namespace DR
open PySem PySem.Spec PyProof.Rows L2
/-! ### any data, and what is told of it -/
def tyName : PyData → String
  | .none => "NoneType"
  | .bool _ => "bool"
  | .int _ => "int"
  | .str _ => "str"
  | .list _ => "list"
  | .tuple _ => "tuple"
  | .dict _ => "dict"
def isTup : PyData → Bool
  | .tuple _ => true
  | _ => false
def isInt' : PyData → Bool
  | .int _ => true
  | .bool _ => true
  | _ => false
def isBool : PyData → Bool
  | .bool _ => true
  | _ => false
def isWhole : PyData → Bool
  | .int _ => true
  | _ => false
def isTerm (p : Int) : PyData → Bool
  | .tuple [.int _, .int c] => decide (1 ≤ c) && decide (c < p)
  | _ => false
def expo : PyData → Int
  | .tuple (.int e :: _) => e
  | _ => 0
def ascD : List PyData → Bool
  | x :: y :: r => decide (expo x < expo y) && ascD (y :: r)
  | _ => true
def isPoly (p : Int) : PyData → Bool
  | .tuple ds => ds.all (isTerm p) && ascD ds
  | _ => false
def isEff (p : Int) : PyData → Bool
  | .tuple [a, b] => isPoly p a && isWhole b
  | _ => false
/-- data, or an empty dict -/
def DpX (K : PySem.W.Frag) (H : Hp) (v : V) (d : PyData) : Prop := Dp K H v d ∨ ∃ a, v = .ref a ∧ H a = some (.dK []) ∧ d = .dict []
section
variable {K : PySem.W.Frag} {H H' : Hp} {v : V} {d : PyData}
theorem Dp.ty (h : Dp K H v d) : TyX K H v (.type (tyName d)) := by
  cases h with
  | non => exact .base .non
  | bl b => exact .base (.bl b)
  | int i => exact .base (.int i)
  | str x => exact .base (.str x)
  | lst hs _ =>
    rcases hs with (h | ⟨o, h⟩) | ⟨o, its, n, h, c, _⟩
    · exact .base (.lst h)
    · exact .base (.frz h)
    · exact .kList h c
  | tup hs _ =>
    rcases hs with (h | ⟨o, h⟩) | ⟨o, its, n, h, c, _⟩
    · exact .base (.tup h)
    · exact .fTuple h
    · exact .kTuple h c
theorem DpX.ty (h : DpX K H v d) : TyX K H v (.type (tyName d)) := by
  rcases h with h | ⟨a, rfl, h, rfl⟩
  · exact Dp.ty h
  · exact .base (.dK h)
theorem kit_tuple (d : PyData) : PySem.W.kitOne K (.type (tyName d)) (.type "tuple") = some (isTup d) := by
  cases d with
  | none => exact kit_ty (show kitB "NoneType" "tuple" = some false by decide +kernel)
  | bool b => exact kit_ty (show kitB "bool" "tuple" = some false by decide +kernel)
  | int i => exact kit_ty (show kitB "int" "tuple" = some false by decide +kernel)
  | str x => exact kit_ty (show kitB "str" "tuple" = some false by decide +kernel)
  | list xs => exact kit_ty (show kitB "list" "tuple" = some false by decide +kernel)
  | tuple xs => exact kit_ty (show kitB "tuple" "tuple" = some true by decide +kernel)
  | dict kvs => exact kit_ty (show kitB "dict" "tuple" = some false by decide +kernel)
theorem kit_int (d : PyData) : PySem.W.kitOne K (.type (tyName d)) (.type "int") = some (isInt' d) := by
  cases d with
  | none => exact kit_ty (show kitB "NoneType" "int" = some false by decide +kernel)
  | bool b => exact kit_ty (show kitB "bool" "int" = some true by decide +kernel)
  | int i => exact kit_ty (show kitB "int" "int" = some true by decide +kernel)
  | str x => exact kit_ty (show kitB "str" "int" = some false by decide +kernel)
  | list xs => exact kit_ty (show kitB "list" "int" = some false by decide +kernel)
  | tuple xs => exact kit_ty (show kitB "tuple" "int" = some false by decide +kernel)
  | dict kvs => exact kit_ty (show kitB "dict" "int" = some false by decide +kernel)
theorem kit_bool (d : PyData) : PySem.W.kitOne K (.type (tyName d)) (.type "bool") = some (isBool d) := by
  cases d with
  | none => exact kit_ty (show kitB "NoneType" "bool" = some false by decide +kernel)
  | bool b => exact kit_ty (show kitB "bool" "bool" = some true by decide +kernel)
  | int i => exact kit_ty (show kitB "int" "bool" = some false by decide +kernel)
  | str x => exact kit_ty (show kitB "str" "bool" = some false by decide +kernel)
  | list xs => exact kit_ty (show kitB "list" "bool" = some false by decide +kernel)
  | tuple xs => exact kit_ty (show kitB "tuple" "bool" = some false by decide +kernel)
  | dict kvs => exact kit_ty (show kitB "dict" "bool" = some false by decide +kernel)
mutual
theorem Dp.same (e : Same H H') : ∀ {v : V} {d : PyData}, Dp K H v d → Dp K H' v d
  | _, _, .non => .non
  | _, _, .bl b => .bl b
  | _, _, .int i => .int i
  | _, _, .str x => .str x
  | _, _, .lst hs ha => .lst (e.seq hs) (DpAll.same e ha)
  | _, _, .tup hs ha => .tup (same_t e hs) (DpAll.same e ha)
theorem DpAll.same (e : Same H H') : ∀ {vs : List V} {ds : List PyData}, DpAll K H vs ds → DpAll K H' vs ds
  | _, _, .nil => .nil
  | _, _, .cons h t => .cons (Dp.same e h) (DpAll.same e t)
end
theorem DpX.same (e : Same H H') (h : DpX K H v d) : DpX K H' v d := h.elim (fun z => .inl (Dp.same e z)) fun ⟨a, e1, e2, e3⟩ => .inr ⟨a, e1, e _ _ e2, e3⟩
theorem DpAll.len : ∀ {vs : List V} {ds : List PyData}, DpAll K H vs ds → vs.length = ds.length
  | _, _, .nil => rfl
  | _, _, .cons _ t => by rw [List.length_cons, List.length_cons, DpAll.len t]
theorem DpAll.get : ∀ {vs : List V} {ds : List PyData} {i : Nat} {x : V}, DpAll K H vs ds → vs[i]? = some x → ∃ d, ds[i]? = some d ∧ Dp K H x d
  | _, _, _, _, .nil, e => by simp at e
  | _, _, 0, _, .cons h _, e => by
    simp at e
    subst e
    exact ⟨_, rfl, h⟩
  | _, _, i + 1, x, .cons _ t, e => by
    obtain ⟨d, h1, h2⟩ := DpAll.get (i := i) (x := x) t (by simpa using e)
    exact ⟨d, by simpa using h1, h2⟩
/-- a tuple's items -/
theorem Dp.tup_inv {ds : List PyData} (h : Dp K H v (.tuple ds)) : ∃ a xs, v = .ref a ∧ SqT K H a xs ∧ DpAll K H xs ds := by
  cases h with
  | tup hs ha => exact ⟨_, _, rfl, hs, ha⟩
theorem Dp.pair_inv {e c : Int} (h : Dp K H v (.tuple [.int e, .int c])) : ∃ a, v = .ref a ∧ SqT K H a [.int e, .int c] := by
  cases h with
  | tup hs ha =>
    cases ha with
    | cons h1 t =>
      cases t with
      | cons h2 t2 =>
        cases t2
        cases h1
        cases h2
        exact ⟨_, rfl, hs⟩
theorem Dp.int_inv {i : Int} (h : Dp K H v (.int i)) : v = .int i := by
  cases h
  rfl
end
theorem isTup_inv {d : PyData} (h : isTup d = true) : ∃ ds, d = .tuple ds := by
  cases d <;> first | exact ⟨_, rfl⟩ | cases h
theorem isWhole_inv {d : PyData} (h : isWhole d = true) : ∃ i, d = .int i := by
  cases d <;> first | exact ⟨_, rfl⟩ | cases h
theorem isTerm_inv {p : Int} {d : PyData} (h : isTerm p d = true) : ∃ e c, d = .tuple [.int e, .int c] ∧ 1 ≤ c ∧ c < p := by
  unfold isTerm at h
  split at h
  · rename_i e c
    rw [Bool.and_eq_true, decide_eq_true_eq, decide_eq_true_eq] at h
    exact ⟨e, c, rfl, h.1, h.2⟩
  · cases h
def sp_is_whole (K : PySem.W.Frag) : Sp := fun vs H Q _ => ∃ (v : V) (d : PyData), vs = [v] ∧ DpX K H v d ∧ Q (.bl (isWhole d)) H
def sp_is_term (K : PySem.W.Frag) : Sp := fun vs H Q _ => ∃ (p : Int) (v : V) (d : PyData), vs = [.int p, v] ∧ Dp K H v d ∧ Q (.bl (isTerm p d)) H
def sp_is_polynomial (K : PySem.W.Frag) : Sp := fun vs H Q _ => ∃ (p : Int) (v : V) (d : PyData), vs = [.int p, v] ∧ DpX K H v d ∧ (∀ ds, d = .tuple ds → ds.length ≤ 1000000) ∧ ∀ H', Same H H' → Q (.bl (isPoly p d)) H'
def sp_is_effect (K : PySem.W.Frag) : Sp := fun vs H Q _ => ∃ (p : Int) (v : V) (d : PyData), vs = [.int p, v] ∧ DpX K H v d ∧ (∀ ds es, d = .tuple ds → PyData.tuple es ∈ ds → es.length ≤ 1000000) ∧ ∀ H', Same H H' → Q (.bl (isEff p d)) H'
/-- [f(x) for x in a tuple], f a truth value -/
theorem lcBool {K : PySem.W.Frag} {a : Addr} {xs : List V} {ds : List PyData} {σ : L2.St} {H : Hp} {vs : List Nat} {n i : Nat} {te : TE} {Q : VK} (f : PyData → Bool) (hv : σ[n]? = some (some (.ref a))) (hs : SqT K H a xs) (hP : DpAll K H xs ds) (hl : ds.length ≤ 1000000)
    (hw : ∀ x, wipe ((wipe σ vs).set i (some x)) vs = wipe σ vs)
    (he : ∀ x d H2, Same H H2 → Dp K H2 x d → ∀ R : VK, R (.bl (f d)) H2 → te ((wipe σ vs).set i (some x)) H2 R)
    (k : ∀ D H2, Same H H2 → H2 D = some (.lst ((ds.map f).map V.bl)) → Q (.ref D) H2) : tLc (iTup K (tVar n)) (gName i) tYes te vs σ H Q := by
  refine ⟨_, hv, a, rfl, ⟨_, hs⟩, fun D nD => lc_tup (K := K) (a := a) (xs := xs) (fun m H2 => Same H H2 ∧ H2 D = some (.lst (((ds.take m).map f).map V.bl))) ⟨same_new nD, upd_same⟩ (fun m H2 _ g => same_t g.1 hs) ?_ ?_⟩
  · rintro m x H2 hm ⟨s2, h2⟩
    obtain ⟨d, hd, hx⟩ := DpAll.get hP hm
    refine ⟨hw _, ?_⟩
    dsimp only [tYes]
    rw [if_pos rfl]
    have hm2 : m < ds.length := (List.getElem?_eq_some_iff.mp hd).1
    refine he x d H2 s2 (Dp.same s2 hx) _ ⟨_, h2, sl_lt (by rw [List.length_map, List.length_map, List.length_take]; omega), same_mut s2 nD, ?_⟩
    rw [upd_same, take_snoc hd, List.map_append, List.map_append]
    rfl
  · rintro H2 ⟨s2, h2⟩
    rw [DpAll.len hP, List.take_length] at h2
    exact k D H2 s2 h2
theorem cut1 (xs : List V) : cutV xs (some 1) none = xs.drop 1 := by
  unfold cutV
  rw [show HT.sIx xs.length 0 (some 1) = min 1 xs.length from HT.sIx_nat xs.length 0 1, HT.sIx_none]
  cases xs with
  | nil => rfl
  | cons x r =>
    rw [show min 1 (x :: r).length = 1 by
      rw [List.length_cons]
      omega]
    show (List.take ((x :: r).length - 1) r) = r
    rw [List.length_cons, Nat.add_sub_cancel]
    exact List.take_length
/-- the pairs of neighbours, compared -/
def ups : List PyData → List Bool
  | x :: y :: r => decide (expo x < expo y) :: ups (y :: r)
  | _ => []
theorem ups_len : ∀ ds : List PyData, (ups ds).length = ds.length - 1
  | [] => rfl
  | [_] => rfl
  | x :: y :: r => by
    show (ups (y :: r)).length + 1 = _
    rw [ups_len (y :: r)]
    show r.length + 1 - 1 + 1 = r.length + 1 + 1 - 1
    omega
theorem ups_get : ∀ (ds : List PyData) (i : Nat) (x y : PyData), ds[i]? = some x → ds[i + 1]? = some y → (ups ds)[i]? = some (decide (expo x < expo y))
  | [], _, _, _, h, _ => by simp at h
  | [_], 0, _, _, _, h => by simp at h
  | [_], i + 1, _, _, h, _ => by simp at h
  | a :: b :: r, 0, x, y, h, h2 => by
    have e1 : a = x := Option.some.inj h
    have e2 : b = y := Option.some.inj h2
    rw [← e1, ← e2]
    rfl
  | a :: b :: r, i + 1, x, y, h, h2 => ups_get (b :: r) i x y h h2
theorem ups_all : ∀ ds : List PyData, (ups ds).all id = ascD ds
  | [] => rfl
  | [_] => rfl
  | x :: y :: r => by
    show (decide (expo x < expo y) && (ups (y :: r)).all id) = _
    rw [ups_all (y :: r)]
    rfl
/-! ### what canonical polynomials and effects are told to be -/
theorem term_pr {p : Int} {t : Int × Int} (h : 0 < t.2 ∧ t.2 < p) : isTerm p (pr t) = true := by
  show (decide (1 ≤ t.2) && decide (t.2 < p)) = true
  rw [decide_eq_true (by omega), decide_eq_true h.2]
  rfl
theorem asc_prs : ∀ {g : Pol}, (g.Pairwise fun x y => x.1 < y.1) → ascD (g.map pr) = true
  | [], _ => rfl
  | [_], _ => rfl
  | t :: u :: r, h => by
    have a := List.pairwise_cons.mp h
    show (decide (t.1 < u.1) && ascD ((u :: r).map pr)) = true
    rw [decide_eq_true (a.1 u List.mem_cons_self), asc_prs a.2]
    rfl
theorem nf_poly {p : Int} {g : Pol} {F : Int → Int} (h : Nf p g F) : isPoly p (pd g) = true := by
  show ((g.map pr).all (isTerm p) && ascD (g.map pr)) = true
  rw [asc_prs h.asc, Bool.and_true, List.all_eq_true]
  intro x hx
  obtain ⟨t, ht, rfl⟩ := List.mem_map.mp hx
  exact term_pr (h.rng t ht)
theorem nf_eff {p : Int} {g : Pol} {F : Int → Int} (h : Nf p g F) (n : Int) : isEff p (ed g n) = true := by
  show (isPoly p (pd g) && true) = true
  rw [nf_poly h]
  rfl
/-- [t[0] < f[0] for t, f in zip(x, x[1:])] -/
theorem lcZip {K : PySem.W.Frag} {a b : Addr} {xs : List V} {ds : List PyData} {σ : L2.St} {H : Hp} {vs : List Nat} {i j : Nat} {te : TE} {Q : VK} (hs : SqT K H a xs) (hb : SqT K H b (xs.drop 1)) (hP : DpAll K H xs ds) (hl : ds.length ≤ 1000000)
    (hw : ∀ x y, wipe (((wipe σ vs).set i (some x)).set j (some y)) vs = wipe σ vs)
    (he : ∀ x y d d' H2, Same H H2 → d ∈ ds → d' ∈ ds → Dp K H2 x d → Dp K H2 y d' → ∀ R : VK, R (.bl (decide (expo d < expo d'))) H2 → te (((wipe σ vs).set i (some x)).set j (some y)) H2 R)
    (k : ∀ D H2, Same H H2 → H2 D = some (.lst ((ups ds).map V.bl)) → Q (.ref D) H2) : tLc (fun _ H R => R (RZ.ItzT K a b) H) (gTup K 2 (gCons (gName i) (gCons (gName j) gNil))) tYes te vs σ H Q := by
  intro D nD
  have hlen : xs.length = ds.length := DpAll.len hP
  refine ⟨fun m r H2 => m + r = ds.length - 1 ∧ Same H H2 ∧ H2 D = some (.lst (((ups ds).take m).map V.bl)), ⟨ds.length - 1, by omega, same_new nD, upd_same⟩, fun m r H2 hW => ?_⟩
  obtain ⟨em, s2, h2⟩ := hW
  have hA : SqT K H2 a xs := same_t s2 hs
  have hB : SqT K H2 b (xs.drop 1) := same_t s2 hb
  by_cases hm : m < ds.length - 1
  · have m1 : m < xs.length := by omega
    have m2 : m + 1 < xs.length := by omega
    have g1 : xs[m]? = some xs[m] := List.getElem?_eq_getElem m1
    have g2 : (xs.drop 1)[m]? = some xs[m + 1] := by
      rw [List.getElem?_drop, Nat.add_comm 1 m, List.getElem?_eq_getElem m2]
    obtain ⟨d, hd, hx⟩ := DpAll.get hP g1
    obtain ⟨d', hd', hy⟩ := DpAll.get hP (List.getElem?_eq_getElem m2)
    have gu := ups_get ds m d d' hd hd'
    refine .inr ⟨⟨xs, xs.drop 1, _, _, hA, hB, g1, g2⟩, fun H' => Same H H' ∧ H' D = some (.lst (((ups ds).take (m + 1)).map V.bl)), fun H' hN => ⟨r - 1, by omega, by omega, hN.1, hN.2⟩, fun v H' hy' => ?_⟩
    obtain ⟨T, x1, x2, rfl, nT, rfl, f1, f2⟩ := hy'
    have ex1 : x1 = xs[m] := Option.some.inj ((f1 _ hA).symm.trans g1)
    have ex2 : x2 = xs[m + 1] := Option.some.inj ((f2 _ hB).symm.trans g2)
    subst ex1
    subst ex2
    have sT : Same H2 (upd H2 T (.tup [xs[m], xs[m + 1]])) := same_new nT
    have s3 := s2.trans sT
    refine ⟨T, _, rfl, SqT.of upd_same, rfl, _, _, rfl, _, _, rfl, rfl, hw _ _, ?_⟩
    dsimp only [tYes]
    rw [if_pos rfl]
    refine he _ _ d d' _ s3 (List.mem_of_getElem? hd) (List.mem_of_getElem? hd') (Dp.same s3 hx) (Dp.same s3 hy) _ ⟨_, sT _ _ h2, sl_lt ?_, same_mut s3 nD, ?_⟩
    · rw [List.length_map, List.length_take]
      omega
    · rw [upd_same, take_snoc gu, List.map_append]
      rfl
  · refine .inl ⟨⟨xs, xs.drop 1, hA, hB, .inr ?_⟩, ?_⟩
    · rw [List.length_drop]
      omega
    · have e : m = ds.length - 1 := by omega
      rw [e, ← ups_len, List.take_length] at h2
      exact k D H2 s2 h2
theorem two {α : Type} {xs : List α} (h : xs.length = 2) : ∃ a b, xs = [a, b] := by
  match xs, h with
  | [a, b], _ => exact ⟨a, b, rfl⟩
end DR
/-! ### tokens, joined by one blank -/
namespace DR
open PySem PySem.Spec PyProof.Rows L2 TL
/-- the text of these tokens -/
def jn (ts : List Str) : Str := Txt.join " " ts
theorem tl_blank : tl (" " : Str) = [32] := by decide +kernel
theorem tl_jn (ts : List Str) : tl (jn ts) = joinL [32] (ts.map tl) := by
  unfold jn
  rw [join_eq, tl_join, tl_blank]
theorem joinL_cons {S p : List Nat} : ∀ {b : List (List Nat)}, b ≠ [] → joinL S (p :: b) = p ++ (S ++ joinL S b)
  | [], h => absurd rfl h
  | _ :: _, _ => rfl
theorem joinL_two {S : List Nat} : ∀ {a b : List (List Nat)}, a ≠ [] → b ≠ [] → joinL S (a ++ b) = joinL S a ++ (S ++ joinL S b)
  | [], _, h, _ => absurd rfl h
  | [p], b, _, h => joinL_cons h
  | p :: q :: r, b, _, h => by
    have z : (q :: r) ++ b ≠ [] := by simp
    show joinL S (p :: ((q :: r) ++ b)) = _
    rw [joinL_cons z, joinL_two (by simp) h, joinL_cons (by simp : q :: r ≠ [])]
    simp only [List.append_assoc]
theorem jn_two {a b : List Str} (ha : a ≠ []) (hb : b ≠ []) : jn (a ++ b) = jn a ++ " " ++ jn b := by
  refine ext_tl ?_
  rw [tl_append, tl_append, tl_jn, tl_jn, tl_jn, tl_blank, List.map_append, joinL_two (by simpa using ha) (by simpa using hb), List.append_assoc]
theorem jn_one (t : Str) : jn [t] = t := ext_tl (by rw [tl_jn]; rfl)
theorem jn_nil : jn [] = Str.empty := ext_tl (by rw [tl_jn]; rfl)
/-- pieces, each some tokens joined -/
theorem jn_groups : ∀ {gs : List (List Str)}, (∀ g ∈ gs, g ≠ []) → jn (gs.map jn) = jn gs.flatten
  | [], _ => rfl
  | [g], _ => by
    rw [List.map_cons, List.map_nil, jn_one, List.flatten_cons, List.flatten_nil, List.append_nil]
  | g :: g2 :: r, h => by
    have h1 := h g List.mem_cons_self
    have h2 := h g2 (List.mem_cons_of_mem _ List.mem_cons_self)
    rw [List.map_cons, List.flatten_cons, jn_two h1 (by rw [List.flatten_cons]; exact fun z => h2 (List.append_eq_nil_iff.mp z).1), ← jn_groups fun g hg => h g (List.mem_cons_of_mem _ hg),
      show jn g :: (g2 :: r).map jn = [jn g] ++ (g2 :: r).map jn from rfl, jn_two (by simp) (by simp), jn_one]
/-- a text, cut into its tokens again -/
theorem split_jn {ts : List Str} (h0 : ts ≠ []) (h : ∀ t ∈ ts, 32 ∉ tl t) : Txt.split (jn ts) " " = ts := split_join tl_blank (by decide +kernel) h0 h
theorem jn_len (ts : List Str) : (jn ts).length ≤ (ts.map fun t => t.length + 1).sum := by
  rw [len_tl, tl_jn]
  induction ts with
  | nil => exact Nat.le_refl _
  | cons t r ih =>
    rw [List.map_cons, List.map_cons, List.sum_cons, len_tl]
    cases r with
    | nil => exact Nat.le_trans (Nat.le_succ _) (Nat.le_add_right _ _)
    | cons u r =>
      rw [joinL_cons (by simp), List.length_append, List.length_append, List.length_singleton]
      omega
theorem jn_ne {ts : List Str} (h0 : ts ≠ []) (h : ∀ t ∈ ts, tl t ≠ []) : tl (jn ts) ≠ [] := by
  rw [tl_jn]
  cases ts with
  | nil => exact absurd rfl h0
  | cons t r =>
    cases r with
    | nil => exact h t List.mem_cons_self
    | cons u r =>
      rw [List.map_cons, joinL_cons (by simp)]
      exact fun z => h t List.mem_cons_self (List.append_eq_nil_iff.mp z).1
/-! ### the token of a number -/
def ctS (c : Int) : Str := Str.ofString (toString c)
theorem ct_pos (n : Nat) : tl (ctS (n : Int)) = numL n := tl_num n
theorem ct_neg {n : Nat} (h : 0 < n) : tl (ctS (-(n : Int))) = 45 :: numL n := by
  obtain ⟨m, rfl⟩ : ∃ m, n = m + 1 := ⟨n - 1, by omega⟩
  have e : toString (-((m + 1 : Nat) : Int)) = "-" ++ toString (m + 1 : Nat) := rfl
  unfold ctS
  rw [e, tl_ofString, String.toList_append, List.map_append]
  have t : (toString (m + 1 : Nat)).toList.map Char.toNat = numL (m + 1) := by
    rw [← tl_num, tl_ofString]
    rfl
  rw [t]
  rfl
/-- the signs behind the minus sign, if there is one -/
def dgL (t : List Nat) : List Nat := match t with
  | 45 :: r => r
  | t => t
/-- whether a token begins with the minus sign -/
def isNeg (t : List Nat) : Bool := match t with
  | 45 :: _ => true
  | _ => false
instance (cs : List Nat) : Decidable (NumText.AllDigits cs) := by unfold NumText.AllDigits; exact inferInstance
/-- the number of a token that is well written, whatever its size -/
def ctW (t : List Nat) : Int := if isNeg t then -((NumText.digitsVal (dgL t) : Nat) : Int) else ((NumText.digitsVal (dgL t) : Nat) : Int)
/-- a token is the text of a number with at most 31 digits -/
def CtOk (t : List Nat) : Prop := dgL t ≠ [] ∧ NumText.AllDigits (dgL t) ∧ ((dgL t).head? = some 48 → t = [48]) ∧ (dgL t).length ≤ 31
instance (t : List Nat) : Decidable (CtOk t) := by unfold CtOk; exact inferInstance
/-- the count of a token -/
def ctOf (t : Str) : Option Int := if CtOk (tl t) ∧ (ctW (tl t)).natAbs ≤ 10 ^ 30 then some (ctW (tl t)) else none
theorem numL_head {n : Nat} (h : 0 < n) : (numL n).head? ≠ some 48 := by
  induction n using Nat.strongRecOn with
  | _ n ih =>
    by_cases q : n < 10
    · rw [numL_lt q]
      intro z
      have : 48 + n = 48 := Option.some.inj z
      omega
    · rw [numL_step (by omega), List.head?_append]
      have := ih (n / 10) (by omega) (by omega)
      cases e : (numL (n / 10)).head? with
      | none => exact absurd (List.head?_eq_none_iff.mp e) (numL_ne _)
      | some c =>
        rw [e] at this
        exact this
theorem neg_num (n : Nat) : isNeg (numL n) = false ∧ dgL (numL n) = numL n := by
  have d := numL_digits n
  cases e : numL n with
  | nil => exact absurd e (numL_ne n)
  | cons c r =>
    have := d c (by rw [e]; exact List.mem_cons_self)
    have hc : c ≠ 45 := by omega
    constructor
    · unfold isNeg
      split
      · next z => cases z; exact absurd rfl hc
      · rfl
    · unfold dgL
      split
      · next z => cases z; exact absurd rfl hc
      · rfl
theorem num_short {n : Nat} (h : n ≤ 10 ^ 30) : (numL n).length ≤ 31 := numL_len (by decide) (by
  have : (10 : Nat) ^ 30 < 10 ^ 31 := by decide
  omega)
theorem ct_back {c : Int} (h : c.natAbs ≤ 10 ^ 30) : ctOf (ctS c) = some c := by
  by_cases hc : 0 ≤ c
  · obtain ⟨n, rfl⟩ := Int.eq_ofNat_of_zero_le hc
    have z := neg_num n
    have hn : n ≤ 10 ^ 30 := by simpa using h
    have w : ctW (tl (ctS (n : Int))) = (n : Int) := by
      unfold ctW
      rw [ct_pos, z.1, z.2, numL_val]
      rfl
    have ok : CtOk (tl (ctS (n : Int))) := by
      unfold CtOk
      rw [ct_pos, z.2]
      refine ⟨numL_ne n, numL_digits n, fun e => ?_, num_short hn⟩
      by_cases q : 0 < n
      · exact absurd e (numL_head q)
      · rw [show n = 0 by omega]
        decide +kernel
    unfold ctOf
    rw [if_pos ⟨ok, by rw [w]; exact h⟩, w]
  · obtain ⟨n, hn0, rfl⟩ : ∃ n : Nat, 0 < n ∧ c = -(n : Int) := ⟨c.natAbs, by omega, by omega⟩
    have hn : n ≤ 10 ^ 30 := by simpa using h
    have z := ct_neg hn0
    have w : ctW (tl (ctS (-(n : Int)))) = -(n : Int) := by
      unfold ctW
      rw [z]
      show (if true = true then -((NumText.digitsVal (numL n) : Nat) : Int) else _) = _
      rw [if_pos rfl, numL_val]
    have ok : CtOk (tl (ctS (-(n : Int)))) := by
      unfold CtOk
      rw [z]
      show numL n ≠ [] ∧ NumText.AllDigits (numL n) ∧ ((numL n).head? = some 48 → _) ∧ (numL n).length ≤ 31
      exact ⟨numL_ne n, numL_digits n, fun e => absurd e (numL_head hn0), num_short hn⟩
    unfold ctOf
    rw [if_pos ⟨ok, by rw [w]; exact h⟩, w]
theorem ct_free (c : Int) : 32 ∉ tl (ctS c) := by
  by_cases hc : 0 ≤ c
  · obtain ⟨n, rfl⟩ := Int.eq_ofNat_of_zero_le hc
    rw [ct_pos]
    exact numL_free (.inl (by decide))
  · obtain ⟨n, hn0, rfl⟩ : ∃ n : Nat, 0 < n ∧ c = -(n : Int) := ⟨c.natAbs, by omega, by omega⟩
    rw [ct_neg hn0]
    intro z
    rcases List.mem_cons.mp z with e | e
    · cases e
    · exact numL_free (.inl (by decide)) e
theorem ct_short {c : Int} (h : c.natAbs ≤ 10 ^ 30) : (ctS c).length ≤ 32 := by
  rw [len_tl]
  by_cases hc : 0 ≤ c
  · obtain ⟨n, rfl⟩ := Int.eq_ofNat_of_zero_le hc
    rw [ct_pos]
    have : n ≤ 10 ^ 30 := by simpa using h
    have := num_short this
    omega
  · obtain ⟨n, hn0, rfl⟩ : ∃ n : Nat, 0 < n ∧ c = -(n : Int) := ⟨c.natAbs, by omega, by omega⟩
    rw [ct_neg hn0, List.length_cons]
    have : n ≤ 10 ^ 30 := by simpa using h
    have := num_short this
    omega
theorem ct_ne (c : Int) : tl (ctS c) ≠ [] := by
  by_cases hc : 0 ≤ c
  · obtain ⟨n, rfl⟩ := Int.eq_ofNat_of_zero_le hc
    rw [ct_pos]
    exact numL_ne n
  · obtain ⟨n, hn0, rfl⟩ : ∃ n : Nat, 0 < n ∧ c = -(n : Int) := ⟨c.natAbs, by omega, by omega⟩
    rw [ct_neg hn0]
    simp
/-- int() of a token -/
theorem ct_int {t : Str} (h : CtOk (tl t)) : PySem.intText? t = some (ctW (tl t)) ∧ t.length ≤ 32 := by
  obtain ⟨h1, h2, _, h4⟩ := h
  have hl : t.cps.toList = tl t := rfl
  cases e : tl t with
  | nil =>
    rw [e] at h1
    exact absurd rfl h1
  | cons c r =>
    by_cases hc : c = 45
    · subst hc
      rw [e] at h1 h2 h4
      change r ≠ [] at h1
      change NumText.AllDigits r at h2
      change r.length ≤ 31 at h4
      have ln : t.length ≤ 32 := by
        rw [len_tl, e, List.length_cons]
        omega
      refine ⟨?_, ln⟩
      rw [intText_neg (hl.trans e) h2 h1 (by omega)]
      rfl
    · have d : dgL (c :: r) = c :: r := by
        unfold dgL
        split
        · next z => cases z; exact absurd rfl hc
        · rfl
      have s : isNeg (c :: r) = false := by
        unfold isNeg
        split
        · next z => cases z; exact absurd rfl hc
        · rfl
      rw [e, d] at h1 h2 h4
      have ln : t.length ≤ 32 := by
        rw [len_tl, e]
        omega
      refine ⟨?_, ln⟩
      rw [intText_digits (by rw [hl, e]; exact h2) (by rw [hl, e]; exact h1) (by omega), hl, e]
      unfold ctW
      rw [s, d]
      rfl
end DR
namespace DR
open PySem PySem.Spec PyProof.Rows L2
/-! ### repr of any data, and of an empty dict -/
section
variable {X : Cx}
theorem call_reprX (hg : X.A.guards = some []) (hu : X.A.units + 100 < cLine) : CallR X (.builtin "repr") (fun xs H Q => ∃ (x : V) (d : PyData), xs = [x] ∧ DpX X.K H x d ∧ d.showable = true ∧ (d.hasDict = true → d = .dict []) ∧ d.depth ≤ 64 ∧ d.shown.length ≤ sizeLine ∧ Q (.str d.shown) H) := by
  intro pins s σ H xs us Q I r h
  obtain ⟨x, d, rfl, hd, hs, hn, hz, hl, q⟩ := h
  obtain ⟨u, rfl, rx⟩ := vals1 r
  rcases hd with hd | ⟨a, rfl, ha, rfl⟩
  · cases hd with
    | non =>
      obtain rfl : u = Value.none := rx
      exact PySem.P.repr_of_none ⟨.str _, H, I.tok _, ⟨_, rfl⟩, q⟩
    | bl b =>
      obtain rfl : u = Value.bool b := rx
      refine PySem.P.repr_of_bool ⟨.str _, H, I.tok _, ⟨_, rfl⟩, ?_⟩
      cases b <;> exact q
    | int i =>
      obtain ⟨t, rfl⟩ := rx
      exact PySem.P.repr_of_int (of_decide_eq_true hs) ⟨.str _, H, I.tok _, ⟨_, rfl⟩, q⟩
    | str y =>
      obtain ⟨t, rfl⟩ := rx
      exact PySem.P.repr_of_str ⟨.str _, H, I.tok _, ⟨_, rfl⟩, q⟩ hl
    | @lst a xs ds h1 h2 =>
      obtain rfl : u = Value.ref a := rx
      obtain ⟨as, rd⟩ := Dp.reads I _ _ _ (Dp.lst h1 h2) rfl
      refine repr_of_reads' rd hs (fun z => absurd (hn z) (by intro e; cases e)) hg (by omega) (fun _ _ e => e) (fun h' t tk hk => ?_) hl
      exact ⟨.str _, H, I.kept hk, ⟨t, rfl⟩, q⟩
    | @tup a xs ds h1 h2 =>
      obtain rfl : u = Value.ref a := rx
      obtain ⟨as, rd⟩ := Dp.reads I _ _ _ (Dp.tup h1 h2) rfl
      refine repr_of_reads' rd hs (fun z => absurd (hn z) (by intro e; cases e)) hg (by omega) (fun _ _ e => e) (fun h' t tk hk => ?_) hl
      exact ⟨.str _, H, I.kept hk, ⟨t, rfl⟩, q⟩
  · obtain rfl : u = Value.ref a := rx
    obtain ⟨z, lo, vs, rel, o, es, ep, e1, ex, e2, _, e4, _⟩ := dk_rd I.hok (Rd.of ha)
    cases rel
    have e5 : es.toList = [] := by
      cases h : es.toList with
      | nil => rfl
      | cons y ys =>
        rw [h] at e4
        cases e4
    have rd : Reads s.heap (.ref a) (.dict []) (a :: [] ++ []) := .dict (kvs := []) e1 ex.1 e2 (by rw [e5]; exact .nil) (by rw [e5]; exact .nil)
    refine repr_of_reads' rd hs (fun _ hm => ?_) hg (by omega) (fun _ _ e => e) (fun h' t tk hk => ?_) hl
    · have e6 : sysModules = a := by simpa using hm
      rw [e6] at lo
      simp at lo
    · exact ⟨.str _, H, I.kept hk, ⟨t, rfl⟩, q⟩
end
end DR
/-! ### t[::-1] of a tuple -/
namespace DRv
open PySem PySem.Spec PyProof.Rows L2 HT
section
variable {prog : Program} {w : World} {A : Around} {E : Value → Shared → Prop} {s : Shared}
theorem fm_congr {α β : Type} {f g : α → Option β} : ∀ {l : List α}, (∀ x ∈ l, f x = g x) → l.filterMap f = l.filterMap g
  | [], _ => rfl
  | x :: l, h => by
    rw [List.filterMap_cons, List.filterMap_cons, h x List.mem_cons_self, fm_congr fun y hy => h y (List.mem_cons_of_mem _ hy)]
theorem applied_back {sl : Addr} {vl vu vs : Value} {n : Nat} {Q : Int × Int × Nat → Shared → Prop} (hs : s.heap.IsSliceOf sl vl vu vs) (pl : IsPart vl none) (pu : IsPart vu none) (ps : IsPart vs (some (-1)))
    (h : Q ((n : Int) - 1, -1, n) s) : wpAny (model prog w) A (Builtin.Slice.sliceApplied (.ref sl) (pure (n : Int))) Q E s := by
  obtain ⟨os, hos, _, hds⟩ := hs
  unfold Builtin.Slice.sliceApplied
  unfold Builtin.Slice.sliceFields
  refine wpAny_bind (wpAny_bind (wpAny_field hos hds (x := vl) rfl (wpAny_bind (wpAny_field hos hds (x := vu) rfl (wpAny_bind (wpAny_field hos hds (x := vs) rfl (wpAny_pure ?_)))))))
  refine wpAny_bind (slicePart_ ps ?_)
  show wpAny _ _ (if ((-1 : Int) == 0) = true then _ else _) _ _ s
  rw [if_neg (by decide)]
  have both := fun R h => slicePart_ (prog := prog) (w := w) (A := A) (E := E) (s := s) (Q := R) pu h
  refine wpAny_bind (slicePart_ pl (wpAny_bind (both _ (wpAny_bind (wpAny_pure ?_)))))
  show wpAny _ _ (match Builtin.Slice.sliceAdjust none none (-1) (n : Int) with | (lo, hi) => pure (lo, (-1 : Int), Builtin.Slice.slicePlaces lo hi (-1))) _ _ s
  have e1 : Builtin.Slice.sliceAdjust none none (-1) (n : Int) = ((n : Int) - 1, -1) := by simp [Builtin.Slice.sliceAdjust]
  have e2 : Builtin.Slice.slicePlaces ((n : Int) - 1) (-1) (-1) = n := by
    simp [Builtin.Slice.slicePlaces]
    try omega
  rw [e1]
  show wpAny _ _ (pure ((n : Int) - 1, (-1 : Int), Builtin.Slice.slicePlaces ((n : Int) - 1) (-1) (-1))) _ _ s
  rw [e2]
  exact wpAny_pure h
theorem pick_back (xs : Array Value) : ((List.range xs.size).filterMap fun (m : Nat) => xs[(((xs.size : Int) - 1) + (m : Int) * -1).toNat]?).toArray = xs.toList.reverse.toArray := by
  congr 1
  have h : ∀ l : List Value, ((List.range l.length).filterMap fun (m : Nat) => l[(((l.length : Int) - 1) + (m : Int) * -1).toNat]?) = l.reverse := by
    intro l
    have e : (List.range l.length).filterMap (fun (m : Nat) => l[(((l.length : Int) - 1) + (m : Int) * -1).toNat]?) = (List.range l.length).filterMap (fun (m : Nat) => l.reverse[m]?) := by
      refine fm_congr fun m hm => ?_
      have hm := List.mem_range.mp hm
      rw [List.getElem?_reverse hm]
      congr 1
      omega
    rw [e]
    have r : ∀ k : List Value, (List.range k.length).filterMap (fun (m : Nat) => k[m]?) = k := by
      intro k
      induction k with
      | nil => rfl
      | cons a k ih =>
        rw [List.length_cons, List.range_succ_eq_map, List.filterMap_cons]
        simp only [List.getElem?_cons_zero, List.filterMap_map]
        congr 1
    have := r l.reverse
    rw [List.length_reverse] at this
    exact this
  have := h xs.toList
  rw [Array.length_toList] at this
  rw [← this]
  refine fm_congr fun m _ => ?_
  rw [Array.getElem?_toList]
theorem tuple_back {t sl : Addr} {items : Array Value} {vl vu vs : Value} {Q : Value → Shared → Prop} (ht : IsTup s.heap t items) (hs : s.heap.IsSliceOf sl vl vu vs) (pl : IsPart vl none) (pu : IsPart vu none) (ps : IsPart vs (some (-1)))
    (h : Q (.ref s.heap.objs.size) { s with heap := s.heap.push { cls := .type "tuple", data := .seq items.toList.reverse.toArray } }) (hsz : items.size ≤ sizeLine) : wpAny (model prog w) A (getItem (.ref t) (.ref sl)) Q E s := by
  have fits : sizeOk (.seq items.toList.reverse.toArray) := by
    show items.toList.reverse.toArray.size ≤ sizeLine
    rw [List.size_toArray, List.length_reverse, Array.length_toList]
    exact hsz
  have ty : s.TypeIs (.ref sl) "slice" := hs.elim fun os z => ⟨os, z.1, z.2.1⟩
  unfold getItem
  try with_reducible refine wpAny_holding ?_
  first | refine wpAny_bind (wpAny_pure ?_) | skip
  refine wpAny_bind (wpAny_sequenceKey ht.typeIs (by decide) ?_)
  refine wpAny_bind (wpAny_callSpecial?_slot (name := Str.ofString "__getitem__") ht.typeIs slot_tuple_getitem (wpAny_call_entry slot_tuple_getitem ht.typeIs entry_tuple_getitem ?_ (args_tuple_getitem _ _)))
  show wpAny _ _ (Builtin.Tuple.tupleItemsOf (.ref t) >>= _) _ _ s
  refine wpAny_bind (tupleItemsOf_ ht (wpAny_bind (wpAny_typeOf ty ?_)))
  rw [if_pos (by decide)]
  refine wpAny_bind (applied_back hs pl pu ps ?_)
  have no : ¬ ((((items.size : Int) - 1) == 0 && (-1 : Int) == 1 && items.size == items.size) = true) := by
    intro q
    have two := (Bool.and_eq_true _ _ ▸ (Bool.and_eq_true _ _ ▸ q).1).2
    exact absurd two (by decide)
  show wpAny _ _ (if (((items.size : Int) - 1) == 0 && (-1 : Int) == 1 && items.size == items.size) = true then _ else _) _ _ s
  rw [if_neg no, pick_back]
  first
    | exact wpAny_bind (m := Builtin.Tuple.tupleExact _) (wpAny_newObj_type (wpAny_pure ⟨_, rfl, wpAny_pure h⟩) fits)
    | exact wpAny_bind (m := Builtin.Tuple.tupleExact _) (wpAny_newObj_type (wpAny_bind (wpAny_pure (wpAny_pure ⟨_, rfl, wpAny_pure h⟩))) fits)
    | exact wpAny_bind (wpAny_bind (m := Builtin.Tuple.tupleExact _) (wpAny_newObj_type (wpAny_pure (wpAny_pure ⟨_, rfl, wpAny_pure h⟩)) fits))
    | exact wpAny_bind (wpAny_bind (m := Builtin.Tuple.tupleExact _) (wpAny_newObj_type (wpAny_pure ⟨_, rfl, wpAny_pure h⟩) fits))
end
section
variable {X : Cx}
def tRevT (K : PySem.W.Frag) (te : TE) : TE := fun σ H Q => te σ H fun x H1 => ∃ a xs, x = .ref a ∧ SqT K H1 a xs ∧ ∀ p, H1 p = none → Q (.ref p) (upd H1 p (.tup xs.reverse))
theorem pe_revT {e : Expr} {te : TE} {k : Nat} {p1 p2 p3 pos : Pos} (he : PE X e te) : PE X (.Subscript e (.Slice none none (some (.UnaryOp .USub (.Constant (.int 1) k p1) p2)) p3) pos) (tRevT X.K te) := by
  refine ⟨fun pins s σ H Q I h => Subscript_ (thn (he.run pins s σ H _ I h) fun v s1 ⟨x, H1, I1, r1, q1⟩ => ?_)⟩
  obtain ⟨a, xs, rfl, hx, q⟩ := q1
  cases r1
  have step : PO X (some (.UnaryOp .USub (.Constant (.int 1) k p1) p2)) (tPart (tUn (rU fun i => .int (-i)) (tC (.int 1)))) := po_some (pe_un un_neg pe_int)
  refine wpAny_Slice (thn (po_none.run pins s1 σ H1 (fun o G => o = none ∧ G = H1) I1 ⟨rfl, rfl⟩) fun vl s2 ⟨l, G2, I2, pl, el, eG⟩ => ?_)
  subst el eG
  refine thn (po_none.run pins s2 σ G2 (fun o G => o = none ∧ G = G2) I2 ⟨rfl, rfl⟩) fun vu s3 ⟨u, G3, I3, pu, eu, eG⟩ => ?_
  subst eu eG
  refine thn (step.run pins s3 σ G3 (fun o G => o = some (-1) ∧ G = G3) I3 ⟨1, rfl, -1, rfl, rfl, rfl⟩) fun vs s4 ⟨o, G4, I4, ps, eo, eG⟩ => ?_
  subst eo eG
  have I5 : Inv X pins σ G4 { s4 with heap := s4.heap.push { cls := .type "slice", data := .fields #[vl, vu, vs] } } := I4.kept (t' := s4.toks) fun b ob q => Heap.get?_push_of_some _ q
  obtain ⟨its, r, ht, hz⟩ := I5.tuple hx
  have len := r.length
  show wpAny (model X.prog X.w) X.A (subscriptTail e (.Slice none none (some (.UnaryOp .USub (.Constant (.int 1) k p1) p2)) p3) (.ref a) (.ref s4.heap.objs.size)) (EP X pins σ Q) X.xe { s4 with heap := s4.heap.push { cls := .type "slice", data := .fields #[vl, vu, vs] } }
  refine tail_any (ops := [.ref a, .ref s4.heap.objs.size]) ht.typeIs slot_tuple_getitem.lookup ?_ (by with_unfolding_all rfl)
  refine tuple_back ht (Heap.IsSliceOf.new _ vl vu vs) pl pu ps ?_ (by rw [List.size_toArray]; omega)
  refine ⟨.ref _, _, I5.laid (t' := s4.toks) (o := .tup xs.reverse) (fun b ob q => Heap.get?_push_of_some _ q) (Nat.le_refl _) ?_, rfl, q _ (I5.hok.fresh (Nat.le_refl _))⟩
  exact ⟨by rw [List.length_reverse]; exact hz, its.reverse, r.reverse, _, Heap.get?_push_size _ rfl, rfl, 0, rfl⟩
end
end DRv
namespace DR
open PySem PySem.Spec PyProof.Rows L2
/-! ### values that may be shown and told of -/
def tupLen : PyData → Nat
  | .tuple es => es.length
  | _ => 0
/-- data that is shown in n signs at most, k deep at most -/
structure Fits (n k : Nat) (d : PyData) : Prop where
  sh : d.showable = true
  nd : d.hasDict = false
  dp : d.depth ≤ k
  ln : d.shown.length ≤ n
theorem Fits.up {n k n' k' : Nat} {d : PyData} (h : Fits n k d) (a : n ≤ n') (b : k ≤ k') : Fits n' k' d := ⟨h.sh, h.nd, Nat.le_trans h.dp b, Nat.le_trans h.ln a⟩
theorem fits_int {i : Int} (h : i.natAbs < 10 ^ 100) : Fits 101 0 (.int i) := ⟨(int_shows h).1, rfl, Nat.le_refl _, (int_shows h).2⟩
theorem fits_pd {g : Pol} (h : Sm g) : Fits (211 * g.length + 3) 2 (pd g) := ⟨(pd_shows h).1, (pd_shows h).2.1, (pd_shows h).2.2.1, (pd_shows h).2.2.2⟩
theorem fits_list {g : Pol} (h : Sm g) : Fits (211 * g.length + 3) 2 (.list (g.map pr)) := by
  obtain ⟨a1, a2, a3, a4, a5⟩ := prs_shows g h.abs
  refine ⟨a1, a2, ?_, ?_⟩
  · show PyData.depthAll (g.map pr) + 1 ≤ 2
    omega
  · show (listText (PyData.shownAll (g.map pr))).length ≤ _
    have := listText_len_le (PyData.shownAll (g.map pr))
    rw [a5] at this
    omega
theorem fits_1 {n k : Nat} {d : PyData} (h : Fits n k d) : Fits (n + 5) (k + 1) (.tuple [d]) := by
  obtain ⟨a, b, c, e⟩ := h
  refine ⟨?_, ?_, ?_, ?_⟩
  · show (d.showable && true) = true
    rw [a]
    rfl
  · show (d.hasDict || false) = false
    rw [b]
    rfl
  · show max d.depth 0 + 1 ≤ k + 1
    omega
  · show (tupleText [d.shown]).length ≤ _
    have := tupleText_len_le [d.shown]
    simp only [List.map_cons, List.map_nil, List.sum_cons, List.sum_nil, List.length_cons, List.length_nil] at this
    omega
theorem fits_2 {n k n' k' : Nat} {d d' : PyData} (h : Fits n k d) (h' : Fits n' k' d') : Fits (n + n' + 7) (max k k' + 1) (.tuple [d, d']) := by
  obtain ⟨a, b, c, e⟩ := h
  obtain ⟨a', b', c', e'⟩ := h'
  refine ⟨?_, ?_, ?_, ?_⟩
  · show (d.showable && (d'.showable && true)) = true
    rw [a, a']
    rfl
  · show (d.hasDict || (d'.hasDict || false)) = false
    rw [b, b']
    rfl
  · show max d.depth (max d'.depth 0) + 1 ≤ max k k' + 1
    omega
  · show (tupleText [d.shown, d'.shown]).length ≤ _
    have := tupleText_len_le [d.shown, d'.shown]
    simp only [List.map_cons, List.map_nil, List.sum_cons, List.sum_nil, List.length_cons, List.length_nil] at this
    omega
theorem fits_l2 {n k n' k' : Nat} {d d' : PyData} (h : Fits n k d) (h' : Fits n' k' d') : Fits (n + n' + 7) (max k k' + 1) (.list [d, d']) := by
  obtain ⟨a, b, c, e⟩ := h
  obtain ⟨a', b', c', e'⟩ := h'
  refine ⟨?_, ?_, ?_, ?_⟩
  · show (d.showable && (d'.showable && true)) = true
    rw [a, a']
    rfl
  · show (d.hasDict || (d'.hasDict || false)) = false
    rw [b, b']
    rfl
  · show max d.depth (max d'.depth 0) + 1 ≤ max k k' + 1
    omega
  · show (listText [d.shown, d'.shown]).length ≤ _
    have := listText_len_le [d.shown, d'.shown]
    simp only [List.map_cons, List.map_nil, List.sum_cons, List.sum_nil, List.length_cons, List.length_nil] at this
    omega
theorem fits_3 {n k n' k' n2 k2 : Nat} {d d' d2 : PyData} (h : Fits n k d) (h' : Fits n' k' d') (h2 : Fits n2 k2 d2) : Fits (n + n' + n2 + 9) (max k (max k' k2) + 1) (.tuple [d, d', d2]) := by
  obtain ⟨a, b, c, e⟩ := h
  obtain ⟨a', b', c', e'⟩ := h'
  obtain ⟨a2, b2, c2, e2⟩ := h2
  refine ⟨?_, ?_, ?_, ?_⟩
  · show (d.showable && (d'.showable && (d2.showable && true))) = true
    rw [a, a', a2]
    rfl
  · show (d.hasDict || (d'.hasDict || (d2.hasDict || false))) = false
    rw [b, b', b2]
    rfl
  · show max d.depth (max d'.depth (max d2.depth 0)) + 1 ≤ _
    omega
  · show (tupleText [d.shown, d'.shown, d2.shown]).length ≤ _
    have := tupleText_len_le [d.shown, d'.shown, d2.shown]
    simp only [List.map_cons, List.map_nil, List.sum_cons, List.sum_nil, List.length_cons, List.length_nil] at this
    omega
/-- what repr and is_effect ask -/
structure Shw (d : PyData) : Prop where
  sh : d.showable = true
  nd : d.hasDict = true → d = .dict []
  dp : d.depth ≤ 64
  ln : d.shown.length ≤ sizeLine
  tl : tupLen d ≤ 1000000
  it : ∀ ds, d = .tuple ds → ∀ x ∈ ds, tupLen x ≤ 1000000
theorem Fits.shw {n k : Nat} {d : PyData} (h : Fits n k d) (hn : n ≤ 1000000) (hk : k ≤ 64) (tl : tupLen d ≤ 1000000) (it : ∀ ds, d = .tuple ds → ∀ x ∈ ds, tupLen x ≤ 1000000) : Shw d :=
  ⟨h.sh, (fun z => by rw [h.nd] at z; cases z), Nat.le_trans h.dp hk, sl_of (Nat.le_trans h.ln hn), tl, it⟩
theorem it_2 {a b : PyData} (h1 : tupLen a ≤ 1000000) (h2 : tupLen b ≤ 1000000) : ∀ ds, PyData.tuple [a, b] = .tuple ds → ∀ x ∈ ds, tupLen x ≤ 1000000 := fun ds e x hx => by
  cases PyData.tuple.inj e
  rcases List.mem_cons.mp hx with z | hx
  · rw [z]; exact h1
  rcases List.mem_cons.mp hx with z | hx
  · rw [z]; exact h2
  · exact absurd hx List.not_mem_nil
def Good (K : PySem.W.Frag) (H : Hp) (v : V) : Prop := ∃ d, DpX K H v d ∧ Shw d
section
variable {K : PySem.W.Frag} {H H' : Hp} {v : V} {l : List V}
theorem Good.same (e : Same H H') (h : Good K H v) : Good K H' v := h.elim fun d z => ⟨d, DpX.same e z.1, z.2⟩
theorem good_nil : ∀ w ∈ ([] : List V), Good K H w := fun w h => absurd h List.not_mem_nil
theorem good_cons (h : Good K H v) (t : ∀ w ∈ l, Good K H w) : ∀ w ∈ v :: l, Good K H w := fun w hw => (List.mem_cons.mp hw).elim (fun e => e ▸ h) (t w)
theorem goods_same (e : Same H H') (h : ∀ w ∈ l, Good K H w) : ∀ w ∈ l, Good K H' w := fun w hw => Good.same e (h w hw)
theorem kp_l {p c : Addr} {n : Nat} {a : Addr} {xs : List V} (pen : PenAt H p c n) (k : Kp p H H') (h : SqL K H a xs) : SqL K H' a xs := by
  obtain ⟨kvs, hp⟩ := pen.dict
  rcases h with (h | ⟨o, h⟩) | h
  · exact .inl (.inl (k _ _ (ne_of h hp (by intro z; cases z)) h))
  · exact .inl (.inr ⟨o, k _ _ (ne_of h hp (by intro z; cases z)) h⟩)
  · exact .inr h
mutual
theorem Dp.kp {p c : Addr} {n : Nat} (pen : PenAt H p c n) (k : Kp p H H') : ∀ {v : V} {d : PyData}, Dp K H v d → Dp K H' v d
  | _, _, .non => .non
  | _, _, .bl b => .bl b
  | _, _, .int i => .int i
  | _, _, .str x => .str x
  | _, _, .lst hs ha => .lst (kp_l pen k hs) (DpAll.kp pen k ha)
  | _, _, .tup hs ha => .tup (tp_t (pen.tp k) hs) (DpAll.kp pen k ha)
theorem DpAll.kp {p c : Addr} {n : Nat} (pen : PenAt H p c n) (k : Kp p H H') : ∀ {vs : List V} {ds : List PyData}, DpAll K H vs ds → DpAll K H' vs ds
  | _, _, .nil => .nil
  | _, _, .cons h t => .cons (Dp.kp pen k h) (DpAll.kp pen k t)
end
theorem Good.kp {p c : Addr} {n : Nat} (pen : PenAt H p c n) (k : Kp p H H') (h : Good K H v) : Good K H' v := by
  obtain ⟨d, hd | ⟨a, e1, e2, e3⟩, s⟩ := h
  · exact ⟨d, .inl (Dp.kp pen k hd), s⟩
  · obtain ⟨ns, u, l, hp, _⟩ := pen.ex
    refine ⟨d, .inr ⟨a, e1, k _ _ (ne_of e2 hp (fun z => ?_)) e2, e3⟩, s⟩
    injection z with z
    cases z
end
def sp__law_odd_value (K : PySem.W.Frag) : Sp := fun vs H Q _ => ∃ (p c : Addr) (n : Nat), vs = [.ref p] ∧ PenAt H p c n ∧ n < 2 ^ 38 ∧ ∀ v H', Kp p H H' → PenAt H' p c (n + 1) → Good K H' v → Q v H'
/-- order of any effect -/
def ordV (p : Int) (f : Pol) (m : Int) : V := if m = 0 then .int (if f = [] then 1 else p) else .non
def sp_orderG (K : PySem.W.Frag) : Sp := fun vs H Q _ => ∃ (p : Int) (v : V) (f : Pol) (m : Int), vs = [.int p, v] ∧ TEff K H v f m ∧ Q (ordV p f m) H
/-- is_effect as the law tells it, term by term -/
def chk (p : Int) : Option Int → List PyData → Bool
  | _, [] => true
  | last, d :: r => isTerm p d && ((match last with | none => true | some l => decide (l < expo d)) && chk p (some (expo d)) r)
theorem chk_some (p : Int) : ∀ (r : List PyData) (d : PyData), chk p (some (expo d)) r = (r.all (isTerm p) && ascD (d :: r))
  | [], d => rfl
  | x :: r, d => by
    show (isTerm p x && (decide (expo d < expo x) && chk p (some (expo x)) r)) = ((isTerm p x && r.all (isTerm p)) && (decide (expo d < expo x) && ascD (x :: r)))
    rw [chk_some p r x]
    cases isTerm p x <;> cases decide (expo d < expo x) <;> cases r.all (isTerm p) <;> cases ascD (x :: r) <;> rfl
theorem chk_none (p : Int) (ds : List PyData) : chk p none ds = isPoly p (.tuple ds) := by
  cases ds with
  | nil => rfl
  | cons d r =>
    show (isTerm p d && (true && chk p (some (expo d)) r)) = ((isTerm p d && r.all (isTerm p)) && ascD (d :: r))
    rw [chk_some]
    cases isTerm p d <;> cases r.all (isTerm p) <;> cases ascD (d :: r) <;> rfl
end DR
namespace DR
open PySem PySem.Spec PyProof.Rows L2
/-! ### values laid out by hand -/
def shwB (d : PyData) : Bool := d.showable && (!d.hasDict || (match d with | .dict [] => true | _ => false)) && decide (d.depth ≤ 64) && decide (d.shown.length ≤ 1000000) && decide (tupLen d ≤ 1000000) && (match d with | .tuple ds => ds.all (fun x => decide (tupLen x ≤ 1000000)) | _ => true)
theorem shw_of {d : PyData} (h : shwB d = true) : Shw d := by
  simp only [shwB, Bool.and_eq_true] at h
  obtain ⟨⟨⟨⟨⟨h1, h2⟩, h3⟩, h4⟩, h5⟩, h6⟩ := h
  refine ⟨h1, fun z => ?_, of_decide_eq_true h3, sl_of (of_decide_eq_true h4), of_decide_eq_true h5, ?_⟩
  · rw [z] at h2
    cases d with
    | dict l =>
      cases l with
      | nil => rfl
      | cons _ _ => cases h2
    | _ => cases h2
  · rintro ds rfl x hx
    exact of_decide_eq_true (List.all_eq_true.mp h6 x hx)
structure Nice (n k : Nat) (d : PyData) : Prop where
  f : Fits n k d
  tl : tupLen d ≤ 1000000
  it : ∀ ds, d = .tuple ds → ∀ x ∈ ds, tupLen x ≤ 1000000
theorem Nice.up {n k n' k' : Nat} {d : PyData} (h : Nice n k d) (a : n ≤ n') (b : k ≤ k') : Nice n' k' d := ⟨h.f.up a b, h.tl, h.it⟩
theorem nice_int {i : Int} (h : i.natAbs < 10 ^ 100) : Nice 101 0 (.int i) := ⟨fits_int h, Nat.zero_le _, fun _ e => by cases e⟩
theorem nice_of {n k : Nat} {d : PyData} (a : d.showable = true) (b : d.hasDict = false) (c : d.depth ≤ k) (e : d.shown.length ≤ n) (t : tupLen d ≤ 1000000) (i : ∀ ds, d = .tuple ds → ∀ x ∈ ds, tupLen x ≤ 1000000) : Nice n k d := ⟨⟨a, b, c, e⟩, t, i⟩
theorem nice_pd {g : Pol} (h : Sm g) (hl : g.length ≤ 101) : Nice 22000 2 (pd g) := ⟨(fits_pd h).up (by omega) (Nat.le_refl _), by
  show (g.map pr).length ≤ _
  rw [List.length_map]
  omega, fun ds e x hx => by
  cases PyData.tuple.inj e
  obtain ⟨t, _, rfl⟩ := List.mem_map.mp hx
  show 2 ≤ 1000000
  decide⟩
theorem nice_lpd {g : Pol} (h : Sm g) (hl : g.length ≤ 101) : Nice 22000 2 (.list (g.map pr)) := ⟨(fits_list h).up (by omega) (Nat.le_refl _), Nat.zero_le _, fun ds e => by cases e⟩
theorem nice_1 {n k : Nat} {d : PyData} (h : Nice n k d) : Nice (n + 5) (k + 1) (.tuple [d]) := ⟨fits_1 h.f, (show 1 ≤ 1000000 by decide), fun ds e x hx => by
  cases PyData.tuple.inj e
  rcases List.mem_cons.mp hx with z | hx
  · rw [z]; exact h.tl
  · exact absurd hx List.not_mem_nil⟩
theorem nice_2 {n k n' k' : Nat} {d d' : PyData} (h : Nice n k d) (h' : Nice n' k' d') : Nice (n + n' + 7) (max k k' + 1) (.tuple [d, d']) := ⟨fits_2 h.f h'.f, (show 2 ≤ 1000000 by decide), it_2 h.tl h'.tl⟩
theorem nice_l2 {n k n' k' : Nat} {d d' : PyData} (h : Nice n k d) (h' : Nice n' k' d') : Nice (n + n' + 7) (max k k' + 1) (.list [d, d']) := ⟨fits_l2 h.f h'.f, Nat.zero_le _, fun ds e => by cases e⟩
theorem nice_3 {n k n' k' n2 k2 : Nat} {d d' d2 : PyData} (h : Nice n k d) (h' : Nice n' k' d') (h2 : Nice n2 k2 d2) : Nice (n + n' + n2 + 9) (max k (max k' k2) + 1) (.tuple [d, d', d2]) := ⟨fits_3 h.f h'.f h2.f, (show 3 ≤ 1000000 by decide), fun ds e x hx => by
  cases PyData.tuple.inj e
  rcases List.mem_cons.mp hx with z | hx
  · rw [z]; exact h.tl
  rcases List.mem_cons.mp hx with z | hx
  · rw [z]; exact h'.tl
  rcases List.mem_cons.mp hx with z | hx
  · rw [z]; exact h2.tl
  · exact absurd hx List.not_mem_nil⟩
def FA (K : PySem.W.Frag) (H : Hp) (v : V) : Prop := ∃ d, Dp K H v d ∧ Nice 25000 3 d
def FB (K : PySem.W.Frag) (H : Hp) (v : V) : Prop := ∃ d, Dp K H v d ∧ Nice 100000 4 d
section
variable {K : PySem.W.Frag} {H : Hp} {b : Addr}
theorem dn_tup (nb : H b = none) (xs : List V) (ds : List PyData) (hd : DpAll K (upd H b (.tup xs)) xs ds) : Dp K (upd H b (.tup xs)) (.ref b) (.tuple ds) := .tup (SqT.of upd_same) hd
theorem dn_lst (nb : H b = none) (xs : List V) (ds : List PyData) (hd : DpAll K (upd H b (.lst xs)) xs ds) : Dp K (upd H b (.lst xs)) (.ref b) (.list ds) := .lst (SqL.of upd_same) hd
theorem dn_dct (nb : H b = none) : DpX K (upd H b (.dK [])) (.ref b) (.dict []) := .inr ⟨b, rfl, upd_same, rfl⟩
theorem same_top (nb : H b = none) (o : HO) : Same (upd H b o) (upd H b o) := Same.refl _

variable {H' : Hp} {v w x : V} {Q : VK}
theorem FA.same (e : Same H H') (h : FA K H v) : FA K H' v := h.elim fun d z => ⟨d, Dp.same e z.1, z.2⟩
theorem FB.same (e : Same H H') (h : FB K H v) : FB K H' v := h.elim fun d z => ⟨d, Dp.same e z.1, z.2⟩
theorem FA.kp {p c : Addr} {n : Nat} (pen : PenAt H p c n) (k : Kp p H H') (h : FA K H v) : FA K H' v := h.elim fun d z => ⟨d, Dp.kp pen k z.1, z.2⟩
theorem FB.kp {p c : Addr} {n : Nat} (pen : PenAt H p c n) (k : Kp p H H') (h : FB K H v) : FB K H' v := h.elim fun d z => ⟨d, Dp.kp pen k z.1, z.2⟩
theorem FA.fb (h : FA K H v) : FB K H v := h.elim fun d z => ⟨d, z.1, z.2.up (by decide) (by decide)⟩
theorem FB.good (h : FB K H v) : Good K H v := h.elim fun d z => ⟨d, .inl z.1, z.2.f.shw (by decide) (by decide) z.2.tl z.2.it⟩
theorem fa_int {i : Int} (h : i.natAbs < 10 ^ 100) : FA K H (.int i) := ⟨_, .int i, (nice_int h).up (by decide) (by decide)⟩
theorem fb_t1 (nb : H b = none) (h : FA K H v) : FB K (upd H b (.tup [v])) (.ref b) := h.elim fun d z => ⟨_, dn_tup nb _ _ (.cons (Dp.same (same_new nb) z.1) .nil), (nice_1 z.2).up (by decide) (by decide)⟩
theorem fb_t2 (nb : H b = none) (h : FA K H v) (h' : FA K H w) : FB K (upd H b (.tup [v, w])) (.ref b) := h.elim fun d z => h'.elim fun d' z' => ⟨_, dn_tup nb _ _ (.cons (Dp.same (same_new nb) z.1) (.cons (Dp.same (same_new nb) z'.1) .nil)), (nice_2 z.2 z'.2).up (by decide) (by decide)⟩
theorem fb_l2 (nb : H b = none) (h : FA K H v) (h' : FA K H w) : FB K (upd H b (.lst [v, w])) (.ref b) := h.elim fun d z => h'.elim fun d' z' => ⟨_, dn_lst nb _ _ (.cons (Dp.same (same_new nb) z.1) (.cons (Dp.same (same_new nb) z'.1) .nil)), (nice_l2 z.2 z'.2).up (by decide) (by decide)⟩
theorem fb_t3 (nb : H b = none) (h : FA K H v) (h' : FA K H w) (h2 : FA K H x) : FB K (upd H b (.tup [v, w, x])) (.ref b) := h.elim fun d z => h'.elim fun d' z' => h2.elim fun d2 z2 => ⟨_, dn_tup nb _ _ (.cons (Dp.same (same_new nb) z.1) (.cons (Dp.same (same_new nb) z'.1) (.cons (Dp.same (same_new nb) z2.1) .nil))), (nice_3 z.2 z'.2 z2.2).up (by decide) (by decide)⟩
theorem DpAll.append : ∀ {xs ys : List V} {ds es : List PyData}, DpAll K H xs ds → DpAll K H ys es → DpAll K H (xs ++ ys) (ds ++ es)
  | _, _, _, _, .nil, t => t
  | _, _, _, _, .cons h r, t => .cons h (DpAll.append r t)
theorem DpAll.rev : ∀ {xs : List V} {ds : List PyData}, DpAll K H xs ds → DpAll K H xs.reverse ds.reverse
  | _, _, .nil => .nil
  | _, _, .cons h r => by
    rw [List.reverse_cons, List.reverse_cons]
    exact DpAll.append (DpAll.rev r) (.cons h .nil)
theorem Sm.rev {g : Pol} (h : Sm g) : Sm g.reverse := ⟨by rw [List.length_reverse]; exact h.len, fun t ht => h.abs t (List.mem_reverse.mp ht)⟩
theorem Sm.snoc {g : Pol} (h : Sm g) (hl : g.length ≤ 100) : Sm (g ++ [(0, 1)]) := ⟨by rw [List.length_append]; show g.length + 1 ≤ _; omega, fun t ht => by
  rcases List.mem_append.mp ht with z | z
  · exact h.abs t z
  · cases List.mem_singleton.mp z
    decide⟩
/-- a heap without the lists that another one holds -/
def er (H0 H : Hp) : Hp := fun b => match H0 b with | some (.lst _) => none | _ => H b
theorem er_at {H0 : Hp} {o : HO} (h : er H0 H b = some o) : H b = some o ∧ ∀ xs, H0 b ≠ some (.lst xs) := by
  unfold er at h
  split at h
  · cases h
  · next h2 => exact ⟨h, fun xs e => h2 xs e⟩
theorem er_of {H0 : Hp} {o : HO} (h : H b = some o) (n : ∀ xs, H0 b ≠ some (.lst xs)) : er H0 H b = some o := by
  unfold er
  split
  · next xs e => exact absurd e (n xs)
  · exact h
theorem er_sub (H0 H : Hp) : Same (er H0 H) H := fun b o e => (er_at e).1
theorem er_same {H0 : Hp} (s : Same H H') : Same (er H0 H) (er H0 H') := fun b o e => er_of (s _ _ (er_at e).1) (er_at e).2
theorem er_kp {H0 : Hp} {p : Addr} (k : Kp p H H') : Kp p (er H0 H) (er H0 H') := fun b o nb e => er_of (k _ _ nb (er_at e).1) (er_at e).2
/-- lists stay -/
def Al (H0 H : Hp) : Prop := ∀ b xs, H0 b = some (.lst xs) → H b ≠ none
theorem Al.refl (H : Hp) : Al H H := fun b xs e z => by rw [e] at z; cases z
theorem Al.same {H0 : Hp} (h : Al H0 H) (s : Same H H') : Al H0 H' := fun b xs e z => by
  cases hb : H b with
  | none => exact h b xs e hb
  | some o => rw [s _ _ hb] at z; cases z
theorem Al.kp {H0 : Hp} {p c : Addr} {n : Nat} (h : Al H0 H) (k : Kp p H H') (pen : PenAt H' p c n) : Al H0 H' := fun b xs e z => by
  by_cases hp : b = p
  · subst hp
    obtain ⟨kvs, d⟩ := pen.dict
    rw [z] at d
    cases d
  · cases hb : H b with
    | none => exact h b xs e hb
    | some o => rw [k _ _ hp hb] at z; cases z
theorem er_new {H0 : Hp} {o : HO} (s : Al H0 H) (nb : H b = none) : Same (upd (er H0 H) b o) (er H0 (upd H b o)) := fun a u e => by
  by_cases h : a = b
  · subst h
    rw [upd_same] at e
    exact er_of (by rw [upd_same]; exact e) fun xs z => s _ _ z nb
  · rw [upd_ne h] at e
    refine er_of ?_ (er_at e).2
    rw [upd_ne h]
    exact (er_at e).1
theorem er_none {H0 : Hp} (nb : H b = none) : er H0 H b = none := by
  unfold er
  split
  · rfl
  · exact nb
theorem er_tp (H : Hp) : Tp H (er H H) := ⟨fun b xs e => er_of e fun ys z => (by rw [e] at z; cases z), fun b o u e => er_of e fun ys z => (by rw [e] at z; cases z)⟩
theorem cat_pol {a c : Addr} {xs : List V} {e : V} (ha : SqT K H a xs) (hb : SqT K H b [e]) (hl : xs.length ≤ 1000) (k0 : xs = [] → Q (.ref b) H) (k : ∀ p, H p = none → Q (.ref p) (upd H p (.tup (xs ++ [e])))) : rCatA K (.ref a) (.ref b) H Q :=
  ⟨a, b, xs, _, rfl, rfl, ha, hb, sl_of (show xs.length + 1 ≤ 1000000 by omega), k0, fun _ z => (by cases z), fun _ _ p np => k p np⟩
theorem tp_kp {p : Addr} {kvs : List (Key × V)} (hp : H p = some (.dK kvs)) (k : Kp p H H') : Tp H H' := ⟨fun b xs e => k _ _ (ne_of e hp (by intro z; cases z)) e, fun b o u e => k _ _ (ne_of e hp (by intro z; cases z)) e⟩
theorem kpd_l {p : Addr} {kvs : List (Key × V)} {a : Addr} {xs : List V} (hp : H p = some (.dK kvs)) (k : Kp p H H') (h : SqL K H a xs) : SqL K H' a xs := by
  rcases h with (h | ⟨o, h⟩) | h
  · exact .inl (.inl (k _ _ (ne_of h hp (by intro z; cases z)) h))
  · exact .inl (.inr ⟨o, k _ _ (ne_of h hp (by intro z; cases z)) h⟩)
  · exact .inr h
mutual
theorem Dp.kpd {p : Addr} {kvs : List (Key × V)} (hp : H p = some (.dK kvs)) (k : Kp p H H') : ∀ {v : V} {d : PyData}, Dp K H v d → Dp K H' v d
  | _, _, .non => .non
  | _, _, .bl b => .bl b
  | _, _, .int i => .int i
  | _, _, .str x => .str x
  | _, _, .lst hs ha => .lst (kpd_l hp k hs) (DpAll.kpd hp k ha)
  | _, _, .tup hs ha => .tup (tp_t (tp_kp hp k) hs) (DpAll.kpd hp k ha)
theorem DpAll.kpd {p : Addr} {kvs : List (Key × V)} (hp : H p = some (.dK kvs)) (k : Kp p H H') : ∀ {vs : List V} {ds : List PyData}, DpAll K H vs ds → DpAll K H' vs ds
  | _, _, .nil => .nil
  | _, _, .cons h t => .cons (Dp.kpd hp k h) (DpAll.kpd hp k t)
end
theorem FA.kpd {H0 : Hp} {p c c' : Addr} {n n' : Nat} (pen0 : PenAt H0 p c n) (pen : PenAt H p c' n') (k : Kp p H H') (h : FA K (er H0 H) v) : FA K (er H0 H') v := h.elim fun d z => by
  obtain ⟨kvs, hp⟩ := pen.dict
  obtain ⟨kvs0, hp0⟩ := pen0.dict
  exact ⟨d, Dp.kpd (er_of hp fun xs e => by rw [hp0] at e; cases e) (er_kp k) z.1, z.2⟩
theorem FB.kpd {H0 : Hp} {p c c' : Addr} {n n' : Nat} (pen0 : PenAt H0 p c n) (pen : PenAt H p c' n') (k : Kp p H H') (h : FB K (er H0 H) v) : FB K (er H0 H') v := h.elim fun d z => by
  obtain ⟨kvs, hp⟩ := pen.dict
  obtain ⟨kvs0, hp0⟩ := pen0.dict
  exact ⟨d, Dp.kpd (er_of hp fun xs e => by rw [hp0] at e; cases e) (er_kp k) z.1, z.2⟩
theorem all_nil {P : V → Prop} : ∀ w ∈ ([] : List V), P w := fun w h => absurd h List.not_mem_nil
theorem all_cons {P : V → Prop} {l : List V} (h : P v) (t : ∀ w ∈ l, P w) : ∀ w ∈ v :: l, P w := fun w hw => (List.mem_cons.mp hw).elim (fun e => e ▸ h) (t w)
theorem all_app {P : V → Prop} {l m : List V} (h : ∀ w ∈ l, P w) (t : ∀ w ∈ m, P w) : ∀ w ∈ l ++ m, P w := fun w hw => (List.mem_append.mp hw).elim (h w) (t w)
theorem cat_polG {H0 : Hp} {a : Addr} {xs : List V} {e : V} (ha : SqT K H a xs) (hb : SqT K H b [e]) (hl : xs.length ≤ 1000) (f0 : FA K (er H0 H) (.ref b)) (f : ∀ p, H p = none → FA K (er H0 (upd H p (.tup (xs ++ [e])))) (.ref p)) (k : ∀ v H', Same H H' → FA K (er H0 H') v → Q v H') : rCatA K (.ref a) (.ref b) H Q :=
  cat_pol (c := b) ha hb hl (fun _ => k _ _ (Same.refl H) f0) fun p np => k _ _ (same_new np) (f p np)
theorem lcTerm {H0 : Hp} {a : Addr} {xs : List V} {σ : L2.St} {vs : List Nat} {n i : Nat} {te : TE} (m : Int) (hm : m.natAbs < 10 ^ 100) (hv : σ[n]? = some (some (.ref a))) (hs : H a = some (.lst xs)) (hl : xs.length ≤ 1000) (al : Al H0 H) (hw : ∀ x, wipe ((wipe σ vs).set i (some x)) vs = wipe σ vs)
    (he : ∀ x H2 (R : VK), (∀ b, H2 b = none → R (.ref b) (upd H2 b (.tup [x, .int m]))) → te ((wipe σ vs).set i (some x)) H2 R) (hF : ∀ x ∈ xs, FA K (er H0 H) x)
    (k : ∀ D ys H2, Same H H2 → H2 D = some (.lst ys) → ys.length = xs.length → (∀ y ∈ ys, FB K (er H0 H2) y) → Q (.ref D) H2) : tLc (iList K (tVar n)) (gName i) tYes te vs σ H Q := by
  refine ⟨_, hv, a, rfl, ⟨_, SqL.of hs⟩, fun D nD => lc_list (K := K) (a := a) (xs := xs) (fun m' H2 => ∃ acc, H2 D = some (.lst acc) ∧ acc.length = m' ∧ Same H H2 ∧ ∀ y ∈ acc, ∃ b x, y = V.ref b ∧ H2 b = some (.tup [x, .int m]) ∧ H b = none ∧ x ∈ xs) ⟨[], upd_same, rfl, same_new nD, fun y h => absurd h List.not_mem_nil⟩ (fun m' H2 _ ⟨acc, h1, h2, s2, h3⟩ => SqL.of (s2 _ _ hs)) ?_ ?_⟩
  · rintro i' x H2 hi ⟨acc, hD, hlen, s2, hA⟩
    refine ⟨hw _, ?_⟩
    dsimp only [tYes]
    rw [if_pos rfl]
    have hi' : i' < xs.length := (List.getElem?_eq_some_iff.mp hi).1
    refine he x H2 _ fun b nb => ?_
    have nbD : D ≠ b := fun z => by rw [← z, hD] at nb; cases nb
    refine ⟨acc, by rw [upd_ne nbD]; exact hD, sl_lt (by omega), acc ++ [.ref b], upd_same, by rw [List.length_append, hlen]; rfl, same_mut (s2.trans (same_new nb)) nD, fun y hy => ?_⟩
    rcases List.mem_append.mp hy with h | h
    · obtain ⟨b', x', e, h1, h2, h3⟩ := hA y h
      refine ⟨b', x', e, ?_, h2, h3⟩
      rw [upd_ne (ne_of h1 hD (by intro z; cases z)), upd_ne (fun z => by rw [z, nb] at h1; cases h1)]
      exact h1
    · have e : y = .ref b := by simpa using h
      refine ⟨b, x, e, ?_, ?_, List.mem_of_getElem? hi⟩
      · rw [upd_ne nbD.symm, upd_same]
      · cases hb : H b with
        | none => rfl
        | some o => rw [s2 _ _ hb] at nb; cases nb
  · rintro H2 ⟨acc, hD, hlen, s2, hA⟩
    refine k D acc H2 s2 hD hlen fun y hy => ?_
    obtain ⟨b, x, rfl, h1, h2, h3⟩ := hA y hy
    obtain ⟨d, hd, hn⟩ := hF x h3
    exact ⟨_, .tup (SqT.of (er_of h1 fun ys z => al _ _ z h2)) (.cons (Dp.same (er_same s2) hd) (.cons (.int m) .nil)), (nice_2 hn (nice_int hm)).up (by decide) (by decide)⟩
end
def sp__law_changed9 (K : PySem.W.Frag) : Sp := fun vs H Q _ => ∃ (p c : Addr) (q : Int) (e : V) (g : Pol) (m : Int) (n : Nat), vs = [.ref p, .int q, e] ∧ 2 ≤ q ∧ q ≤ 97 ∧ TEff K H e g m ∧ Sm g ∧ g.length ≤ 100 ∧ m.natAbs < 10 ^ 90 ∧ PenAt H p c n ∧ n < 2 ^ 38 ∧ ∀ v H', Kp p H H' → PenAt H' p c (n + 2) → Good K (er H H') v → Q v H'
theorem op_mulOk {X : Cx} : OpR X (binaryOp .Mult) (rI IntMulOk fun i j => .int (i * j)) := opI fun _ _ _ _ _ _ _ hc q => mul_int q hc
def er1 (D : Addr) (H : Hp) : Hp := fun b => if b = D then none else H b
theorem er1_at {D b : Addr} {H : Hp} {o : HO} (h : er1 D H b = some o) : b ≠ D ∧ H b = some o := by
  unfold er1 at h
  split at h
  · cases h
  · next z => exact ⟨z, h⟩
theorem er1_of {D b : Addr} {H : Hp} {o : HO} (n : b ≠ D) (h : H b = some o) : er1 D H b = some o := by
  unfold er1
  rw [if_neg n]
  exact h
theorem er1_pen {D p c : Addr} {H : Hp} {n : Nat} (hp : p ≠ D) (hc : c ≠ D) (pen : PenAt H p c n) : PenAt (er1 D H) p c n := by
  obtain ⟨ns, u, l, h1, h2, h3, h4⟩ := pen.ex
  exact ⟨⟨ns, u, l, er1_of hp h1, er1_of hc h2, h3, h4⟩⟩
theorem lcPenG {K : PySem.W.Frag} {p c : Addr} {σ : L2.St} {H : Hp} {vs : List Nat} {i : Nat} {te : TE} {Q : VK} (n : Nat) {z : Int} (hz : z = (n : Int)) (b cost : Nat) (hn : n ≤ 1000)
    (hw : ∀ x, wipe ((wipe σ vs).set i (some x)) vs = wipe σ vs) (pen : PenAt H p c b)
    (he : ∀ (m : Nat), m < n → ∀ H2, Kp p H H2 → PenAt H2 p c (b + cost * m) → ∀ S : VK, (∀ v H3, Kp p H2 H3 → PenAt H3 p c (b + cost * (m + 1)) → Good K (er H2 H3) v → S v H3) → te ((wipe σ vs).set i (some (.int (0 + (m : Int))))) H2 S)
    (k : ∀ D xs H2, xs.length = n → H2 D = some (.lst xs) → (∀ v ∈ xs, Good K H2 v) → Kp p H H2 → PenAt H2 p c (b + cost * n) → Q (.ref D) H2) : tLc (iRng1 (tCons (tC (.int z)) tNil)) (gName i) tYes te vs σ H Q := by
  subst hz
  refine ⟨(n : Int), rfl, by omega, by omega, fun D nD => lc_range (lo := 0) (n := ((n : Int)).toNat) (fun m H2 => ∃ xs, H2 D = some (.lst xs) ∧ xs.length = m ∧ (∀ v ∈ xs, Good K (er1 D H2) v) ∧ Kp p H H2 ∧ PenAt H2 p c (b + cost * m)) ⟨[], upd_same, rfl, fun v h => absurd h List.not_mem_nil, Same.kp (same_new nD), pen.same (same_new nD)⟩ ?_ ?_⟩
  · rintro m H2 hm ⟨xs, hD, hl, hR, kp, pen2⟩
    refine ⟨hw _, ?_⟩
    dsimp only [tYes]
    rw [if_pos rfl]
    refine he m (by omega) H2 kp pen2 _ fun v H3 k3 pen3 hv => ?_
    have npD := pen.np nD
    have ncD := pen.nc nD
    have hD3 : H3 D = some (.lst xs) := k3 _ _ npD hD
    refine ⟨xs, hD3, sl_lt (by omega), xs ++ [v], upd_same, by rw [List.length_append, hl]; rfl, fun w hw' => ?_, fun x o nx ex => ?_, pen3.upd npD ncD⟩
    · rcases List.mem_append.mp hw' with h | h
      · refine Good.kp (er1_pen npD.symm ncD.symm pen2) (fun x o nx ex => ?_) (hR w h)
        obtain ⟨h1, h2⟩ := er1_at ex
        exact er1_of h1 (by rw [upd_ne h1]; exact k3 _ _ nx h2)
      · have e : w = v := by simpa using h
        rw [e]
        refine Good.same (fun x o ex => ?_) hv
        obtain ⟨h1, h2⟩ := er_at ex
        have h3 : x ≠ D := fun z => h2 xs (z ▸ hD)
        exact er1_of h3 (by rw [upd_ne h3]; exact h1)
    · rw [upd_ne (ne_of_none ex nD)]
      exact k3 _ _ nx (kp _ _ nx ex)
  · rintro H2 ⟨xs, hD, hl, hR, kp, pen2⟩
    exact k D xs H2 (by rw [hl]; omega) hD (fun v hv => Good.same (fun x o ex => (er1_at ex).2) (hR v hv)) kp (pen2.mono (by rw [Int.toNat_natCast]; exact Nat.le_refl _))
end DR
/-! ### programs -/
namespace DR
open PySem PySem.Spec PyProof.Rows L2
inductive Ins where
  | step (c : Int)
  | turn (c : Int)
  | rep (n : Int) (b : List Ins)
mutual
def shI : Ins → Int
  | .step c => c
  | .turn _ => 0
  | .rep n b => n * shP b
def shP : List Ins → Int
  | [] => 0
  | i :: r => shI i + shP r
end
mutual
def exI : Ins → Int
  | .step _ => 1
  | .turn _ => 1
  | .rep n b => n * exP b
def exP : List Ins → Int
  | [] => 0
  | i :: r => exI i + exP r
end
mutual
def dpI : Ins → Nat
  | .step _ => 0
  | .turn _ => 0
  | .rep _ b => dpP b + 1
def dpP : List Ins → Nat
  | [] => 0
  | i :: r => max (dpI i) (dpP r)
end
/-! how many instructions, inner ones too -/
mutual
def cnI : Ins → Nat
  | .step _ => 1
  | .turn _ => 1
  | .rep _ b => cnP b + 1
def cnP : List Ins → Nat
  | [] => 0
  | i :: r => cnI i + cnP r
end
/-! counts within 2 ^ 100, bodies of at most 1024 instructions -/
mutual
def WI : Ins → Prop
  | .step c => c.natAbs ≤ 2 ^ 100
  | .turn c => c.natAbs ≤ 2 ^ 100
  | .rep n b => n.natAbs ≤ 2 ^ 100 ∧ b.length ≤ 1024 ∧ WP b
def WP : List Ins → Prop
  | [] => True
  | i :: r => WI i ∧ WP r
end
theorem shP_nil : shP [] = 0 := by unfold shP; rfl
theorem shP_cons (i : Ins) (r : List Ins) : shP (i :: r) = shI i + shP r := by rw [shP]
theorem exP_nil : exP [] = 0 := by unfold exP; rfl
theorem exP_cons (i : Ins) (r : List Ins) : exP (i :: r) = exI i + exP r := by rw [exP]
theorem shP_app : ∀ (a b : List Ins), shP (a ++ b) = shP a + shP b
  | [], b => by rw [List.nil_append, shP_nil, Int.zero_add]
  | i :: r, b => by rw [List.cons_append, shP_cons, shP_cons, shP_app r b, Int.add_assoc]
theorem exP_app : ∀ (a b : List Ins), exP (a ++ b) = exP a + exP b
  | [], b => by rw [List.nil_append, exP_nil, Int.zero_add]
  | i :: r, b => by rw [List.cons_append, exP_cons, exP_cons, exP_app r b, Int.add_assoc]
theorem dpP_cons (i : Ins) (r : List Ins) : dpP (i :: r) = max (dpI i) (dpP r) := by rw [dpP]
theorem dpP_app : ∀ (a b : List Ins), dpP (a ++ b) = max (dpP a) (dpP b)
  | [], b => by
    rw [List.nil_append, show dpP [] = 0 by unfold dpP; rfl]
    omega
  | i :: r, b => by
    rw [List.cons_append, dpP_cons, dpP_cons, dpP_app r b]
    omega
theorem cnP_cons (i : Ins) (r : List Ins) : cnP (i :: r) = cnI i + cnP r := by rw [cnP]
theorem cnP_app : ∀ (a b : List Ins), cnP (a ++ b) = cnP a + cnP b
  | [], b => by
    rw [List.nil_append, show cnP [] = 0 by unfold cnP; rfl]
    omega
  | i :: r, b => by
    rw [List.cons_append, cnP_cons, cnP_cons, cnP_app r b]
    omega
theorem WP_cons (i : Ins) (r : List Ins) : WP (i :: r) = (WI i ∧ WP r) := by rw [WP]
theorem WP_app : ∀ (a b : List Ins), WP a → WP b → WP (a ++ b)
  | [], b, _, h => h
  | i :: r, b, h, h2 => by
    rw [List.cons_append, WP_cons]
    rw [WP_cons] at h
    exact ⟨h.1, WP_app r b h.2 h2⟩
theorem dpP_mem : ∀ {b : List Ins} {i : Ins}, i ∈ b → dpI i ≤ dpP b
  | [], _, h => absurd h List.not_mem_nil
  | j :: r, i, h => by
    rw [dpP_cons]
    rcases List.mem_cons.mp h with e | e
    · rw [e]; omega
    · have := dpP_mem e; omega
theorem WP_mem : ∀ {b : List Ins} {i : Ins}, WP b → i ∈ b → WI i
  | [], _, _, h => absurd h List.not_mem_nil
  | j :: r, i, w, h => by
    rw [WP_cons] at w
    rcases List.mem_cons.mp h with e | e
    · rw [e]; exact w.1
    · exact WP_mem w.2 e
theorem cnP_mem : ∀ {b : List Ins} {i : Ins}, i ∈ b → cnI i ≤ cnP b
  | [], _, h => absurd h List.not_mem_nil
  | j :: r, i, h => by
    rw [cnP_cons]
    rcases List.mem_cons.mp h with e | e
    · rw [e]; omega
    · have := cnP_mem e; omega
theorem cnI_pos (i : Ins) : 0 < cnI i := by
  cases i <;> unfold cnI <;> omega
theorem len_cnP : ∀ b : List Ins, b.length ≤ cnP b
  | [] => Nat.zero_le _
  | i :: r => by
    have := len_cnP r
    have := cnI_pos i
    rw [cnP_cons, List.length_cons]
    omega
/-- how large shifts and executed counts grow -/
theorem bigs (f : Ins → Int) (g : List Ins → Int) (h0 : g [] = 0) (hc : ∀ i r, g (i :: r) = f i + g r) (M : Nat) : ∀ (b : List Ins), (∀ i ∈ b, (f i).natAbs ≤ M) → (g b).natAbs ≤ M * b.length
  | [], _ => by rw [h0]; exact Nat.zero_le _
  | i :: r, h => by
    have h1 := h i List.mem_cons_self
    have h2 := bigs f g h0 hc M r fun j hj => h j (List.mem_cons_of_mem _ hj)
    rw [hc, List.length_cons, Nat.mul_add, Nat.mul_one]
    omega
theorem pow_le2 {a b : Nat} (h : a ≤ b) : 2 ^ a ≤ 2 ^ b := Nat.pow_le_pow_right (by decide) h
theorem sh_big : ∀ (k : Nat) (b : List Ins), dpP b ≤ k → WP b → b.length ≤ 1024 → (shP b).natAbs ≤ 2 ^ (110 * (k + 1))
  | k, b, hd, hw, hl => by
    have hI : ∀ i ∈ b, (shI i).natAbs ≤ 2 ^ (110 * k + 100) := fun i hi => by
      have wi := WP_mem hw hi
      have di := Nat.le_trans (dpP_mem hi) hd
      cases i with
      | step c =>
        rw [shI]
        rw [WI] at wi
        exact Nat.le_trans wi (pow_le2 (by omega))
      | turn c =>
        rw [shI]
        exact Nat.zero_le _
      | rep n bb =>
        rw [shI]
        rw [WI] at wi
        rw [dpI] at di
        have := sh_big (k - 1) bb (by omega) wi.2.2 wi.2.1
        rw [Int.natAbs_mul]
        have e : 110 * (k - 1 + 1) = 110 * k := by omega
        rw [e] at this
        have h3 := Nat.mul_le_mul wi.1 this
        rw [← Nat.pow_add] at h3
        rw [Nat.add_comm]
        exact h3
    have h := bigs shI shP shP_nil shP_cons _ b hI
    have h2 : 2 ^ (110 * k + 100) * b.length ≤ 2 ^ (110 * k + 100) * 2 ^ 10 := Nat.mul_le_mul_left _ hl
    rw [← Nat.pow_add] at h2
    exact Nat.le_trans h h2
termination_by k => k
decreasing_by
  rw [dpI] at di
  omega
theorem ex_big : ∀ (k : Nat) (b : List Ins), dpP b ≤ k → WP b → b.length ≤ 1024 → (exP b).natAbs ≤ 2 ^ (110 * (k + 1))
  | k, b, hd, hw, hl => by
    have hI : ∀ i ∈ b, (exI i).natAbs ≤ 2 ^ (110 * k + 100) := fun i hi => by
      have wi := WP_mem hw hi
      have di := Nat.le_trans (dpP_mem hi) hd
      cases i with
      | step c =>
        rw [exI]
        exact Nat.le_trans (show 1 ≤ 2 ^ 0 by decide) (pow_le2 (by omega))
      | turn c =>
        rw [exI]
        exact Nat.le_trans (show 1 ≤ 2 ^ 0 by decide) (pow_le2 (by omega))
      | rep n bb =>
        rw [exI]
        rw [WI] at wi
        rw [dpI] at di
        have := ex_big (k - 1) bb (by omega) wi.2.2 wi.2.1
        rw [Int.natAbs_mul]
        have e : 110 * (k - 1 + 1) = 110 * k := by omega
        rw [e] at this
        have h3 := Nat.mul_le_mul wi.1 this
        rw [← Nat.pow_add] at h3
        rw [Nat.add_comm]
        exact h3
    have h := bigs exI exP exP_nil exP_cons _ b hI
    have h2 : 2 ^ (110 * k + 100) * b.length ≤ 2 ^ (110 * k + 100) * 2 ^ 10 := Nat.mul_le_mul_left _ hl
    rw [← Nat.pow_add] at h2
    exact Nat.le_trans h h2
termination_by k => k
decreasing_by
  rw [dpI] at di
  omega
/-! ### as data -/
mutual
inductive IsI : PyData → Ins → Prop
  | step (c : Int) : IsI (.tuple [.str "step", .int c]) (.step c)
  | turn (c : Int) : IsI (.tuple [.str "turn", .int c]) (.turn c)
  | rep {d : PyData} {b : List Ins} (n : Int) : IsP d b → IsI (.tuple [.str "repeat", .int n, d]) (.rep n b)
inductive IsP : PyData → List Ins → Prop
  | lst {ds : List PyData} {b : List Ins} : IsAll ds b → IsP (.list ds) b
  | tup {ds : List PyData} {b : List Ins} : IsAll ds b → IsP (.tuple ds) b
inductive IsAll : List PyData → List Ins → Prop
  | nil : IsAll [] []
  | cons {d : PyData} {i : Ins} {ds : List PyData} {b : List Ins} : IsI d i → IsAll ds b → IsAll (d :: ds) (i :: b)
end
theorem IsAll.len : ∀ {ds : List PyData} {b : List Ins}, IsAll ds b → ds.length = b.length
  | _, _, .nil => rfl
  | _, _, .cons _ t => by rw [List.length_cons, List.length_cons, IsAll.len t]
theorem IsAll.get : ∀ {ds : List PyData} {b : List Ins} {j : Nat} {d : PyData}, IsAll ds b → ds[j]? = some d → ∃ i, b[j]? = some i ∧ IsI d i
  | _, _, _, _, .nil, e => by simp at e
  | _, _, 0, _, .cons h _, e => by
    simp at e
    subst e
    exact ⟨_, rfl, h⟩
  | _, _, j + 1, d, .cons _ t, e => by
    obtain ⟨i, h1, h2⟩ := IsAll.get (j := j) (d := d) t (by simpa using e)
    exact ⟨i, by simpa using h1, h2⟩
theorem IsAll.app : ∀ {ds es : List PyData} {a b : List Ins}, IsAll ds a → IsAll es b → IsAll (ds ++ es) (a ++ b)
  | _, _, _, _, .nil, h => h
  | _, _, _, _, .cons h t, h2 => .cons h (IsAll.app t h2)
/-! shown -/
mutual
theorem isI_fits : ∀ {d : PyData} {i : Ins}, IsI d i → WI i → Fits (150 * cnI i - 2) (2 * dpI i + 1) d
  | _, _, .step c, w => by
    rw [WI] at w
    have h := fits_2 (n := 10) (k := 0) (d := .str "step") ⟨by decide +kernel, by decide +kernel, by decide +kernel, by decide +kernel⟩ (fits_int (i := c) (Nat.lt_of_le_of_lt w (by decide +kernel)))
    refine h.up ?_ ?_
    · rw [cnI]; decide
    · rw [dpI]; decide
  | _, _, .turn c, w => by
    rw [WI] at w
    have h := fits_2 (n := 10) (k := 0) (d := .str "turn") ⟨by decide +kernel, by decide +kernel, by decide +kernel, by decide +kernel⟩ (fits_int (i := c) (Nat.lt_of_le_of_lt w (by decide +kernel)))
    refine h.up ?_ ?_
    · rw [cnI]; decide
    · rw [dpI]; decide
  | _, _, .rep (d := d) (b := b) n hp, w => by
    rw [WI] at w
    have h := fits_3 (n := 10) (k := 0) (d := .str "repeat") ⟨by decide +kernel, by decide +kernel, by decide +kernel, by decide +kernel⟩ (fits_int (i := n) (Nat.lt_of_le_of_lt w.1 (by decide +kernel))) (isP_fits hp w.2.2)
    refine h.up ?_ ?_
    · rw [cnI]; omega
    · rw [dpI]; omega
theorem isP_fits : ∀ {d : PyData} {b : List Ins}, IsP d b → WP b → Fits (150 * cnP b + 5) (2 * dpP b + 2) d
  | _, _, .lst (ds := ds) h, w => by
    obtain ⟨a1, a2, a3, a4, a5⟩ := isAll_fits h w
    refine ⟨a1, a2, ?_, ?_⟩
    · show PyData.depthAll ds + 1 ≤ _
      omega
    · show (listText (PyData.shownAll ds)).length ≤ _
      have := listText_len_le (PyData.shownAll ds)
      omega
  | _, _, .tup (ds := ds) h, w => by
    obtain ⟨a1, a2, a3, a4, a5⟩ := isAll_fits h w
    refine ⟨a1, a2, ?_, ?_⟩
    · show PyData.depthAll ds + 1 ≤ _
      omega
    · show (tupleText (PyData.shownAll ds)).length ≤ _
      have := tupleText_len_le (PyData.shownAll ds)
      omega
theorem isAll_fits : ∀ {ds : List PyData} {b : List Ins}, IsAll ds b → WP b → PyData.showableAll ds = true ∧ PyData.hasDictAll ds = false ∧ PyData.depthAll ds ≤ 2 * dpP b + 1 ∧ ((PyData.shownAll ds).map (·.length)).sum + 2 * (PyData.shownAll ds).length ≤ 150 * cnP b ∧ (PyData.shownAll ds).length = b.length
  | _, _, .nil, _ => ⟨rfl, rfl, Nat.zero_le _, Nat.le_refl _, rfl⟩
  | _, _, .cons (d := d) (i := i) (ds := ds) (b := b) h t, w => by
    rw [WP_cons] at w
    obtain ⟨a1, a2, a3, a4, a5⟩ := isAll_fits t w.2
    obtain ⟨b1, b2, b3, b4⟩ := isI_fits h w.1
    refine ⟨?_, ?_, ?_, ?_, ?_⟩
    · show (d.showable && PyData.showableAll ds) = true
      rw [a1, b1]
      rfl
    · show (d.hasDict || PyData.hasDictAll ds) = false
      rw [a2, b2]
      rfl
    · show max d.depth (PyData.depthAll ds) ≤ _
      rw [dpP_cons]
      omega
    · show (d.shown.length :: ((PyData.shownAll ds).map (·.length))).sum + 2 * ((PyData.shownAll ds).length + 1) ≤ _
      have := cnI_pos i
      rw [List.sum_cons, cnP_cons]
      omega
    · show (PyData.shownAll ds).length + 1 = _
      rw [a5, List.length_cons]
end
end DR
namespace DR
open PySem PySem.Spec PyProof.Rows L2
/-! ### a call by keywords alone -/
section
variable {X : Cx} {CX : CXT} {k : Nat} {f : Addr} {fd : FuncData} {ps ks : List Str} {sp : Sp} {E : XK} {x : Str} {p pos : Pos} {kws : List Keyword} {tk : TA} {g : List Value → List Value → List Value} {gV : List V → List V → List V}
/-- the keywords of a call, none of them `**` -/
structure KwsAre (pos : Pos) (kws : List Keyword) (env : Env) (ks : List Str) : Prop where
  named : (backToKw pos (keywordEach kws env)).all (·.1.isSome) = true
  names : (backToKw pos (keywordEach kws env)).filterMap (·.1) = ks
  plain : ((backTo pos (starEach [] env)).any (·.1) || (backToKw pos (keywordEach kws env)).any (·.1.isNone)) = false
theorem pe_callK0 (F : FnOk X.prog X.w X.K X.mg X.base CX k f fd ps sp) (hr : Room k X.A) (hg : Gl X x) (hm : X.mg x = some (.ref f)) (hk : PySem.W.keepIn X.K (.ref f) = true) (hb : KBinds X.K fd ps ks g gV) (hx : Passes CX X E) (hkw : PK X kws tk)
    (said : KwsAre pos kws X.env ks := by exact ⟨rfl, rfl, rfl⟩) (hdb : (x == ("__debug__" : Str)) = false := by decide) :
    PE X (.Call (.Name x p) [] kws pos) (tCallK sp gV E tNil tk) := by
  refine ⟨fun pins now σ H Q I told => wpAny_Call_Name_kw (ld_glob I hg hm (PySem.W.callWith_KW0 (h₀ := X.base) I.ok.mod.kin hk said.named ?_ said.plain) hdb)⟩
  refine thn (hkw.run pos pins now σ H _ I told) fun ws s2 ⟨zs, H2, I2, rz, q2⟩ => ⟨I2.kIn, ?_⟩
  rw [said.names]
  exact run_fnk (us := []) (vs := []) F hr hb hx I2 .nil rz q2
end
/-- two keywords, in the other order -/
def sw2 {α : Type} : List α → List α → List α
  | [], [a, b] => [b, a]
  | _, _ => []
theorem sw2_rel {vs : List V} {us : List Value} {zs : List V} {ws : List Value} (h : Vals vs us) (h2 : Vals zs ws) : Vals (sw2 vs zs) (sw2 us ws) := by
  cases h with
  | nil =>
    cases h2 with
    | nil => exact .nil
    | cons a t =>
      cases t with
      | nil => exact .nil
      | cons b t2 =>
        cases t2 with
        | nil => exact .cons b (.cons a .nil)
        | cons _ _ => exact .nil
  | cons _ _ =>
    cases h2 with
    | nil => exact .nil
    | cons a t => exact .nil
structure CalW (P : Program) (w : World) (K : PySem.W.Frag) (mg : Str → Option Value) (base : Heap) (k : Nat) (x : Str) (k1 k2 : Str) (sp : Sp) : Prop where
  ex : ∃ (f : Addr) (fd : FuncData), FnOk P w K mg base CX0 k f fd [k2, k1] sp ∧ mg x = some (.ref f) ∧ PySem.W.keepIn K (.ref f) = true ∧ KBinds K fd [k2, k1] [k1, k2] sw2 sw2
theorem calw_of {P : Program} {w : World} {K : PySem.W.Frag} {mg : Str → Option Value} {base : Heap} {k : Nat} {x k1 k2 : Str} {st : Stmt} {sp : Sp} (D : Df K mg x st)
    (b : ∀ (kV doc pm : Value) (an : Option Addr) (cdv ct : Value) (u v : Value), bindArgs (PySem.W.fnOf x x (defArgs st) (defBody st) (defScope st) .none kV doc pm an cdv ct) ⟨[], [(k1, u), (k2, v)]⟩ = pure [(k2, v), (k1, u)])
    (ok : ∀ f fd, Fun K x x st f fd → FnOk P w K mg base CX0 k f fd [k2, k1] sp) : CalW P w K mg base k x k1 k2 sp := by
  obtain ⟨f, fd, F, hm, kp⟩ := D.ex
  refine ⟨f, fd, ok f fd F, hm, kp, ⟨fun s us ws _ hl => ?_, sw2_rel⟩⟩
  obtain ⟨_, _, kV, doc, pm, an, cdv, ct, _, rfl, _⟩ := F.ex
  match us, ws, hl with
  | [], [u, v], _ => exact .of_eq (b kV doc pm an cdv ct u v)
theorem pe_cw {X : Cx} {k j : Nat} {x k1 k2 : Str} {sp : Sp} {p pos : Pos} {kws : List Keyword} {tk : TA} (c : CalW X.prog X.w X.K X.mg X.base k x k1 k2 sp) (hr : Room j X.A) (hk : k ≤ j) (hg : Gl X x) (hkw : PK X kws tk)
    (said : KwsAre pos kws X.env [k1, k2] := by exact ⟨rfl, rfl, rfl⟩) (hdb : (x == ("__debug__" : Str)) = false := by decide) :
    PE X (.Call (.Name x p) [] kws pos) (tCallK sp sw2 E0 tNil tk) := by
  obtain ⟨f, fd, F, hm, kp, b⟩ := c.ex
  exact pe_callK0 F (hr.mono hk) hg hm kp b pass0 hkw said hdb
/-! ### least and greatest -/
def loL (x : Int) (r : List Int) : Int := r.foldr min x
def hiL (x : Int) (r : List Int) : Int := r.foldr max x
theorem loL_le (x : Int) : ∀ (r : List Int), loL x r ≤ x ∧ ∀ y ∈ r, loL x r ≤ y
  | [] => ⟨Int.le_refl _, fun y h => absurd h List.not_mem_nil⟩
  | z :: r => by
    obtain ⟨a, b⟩ := loL_le x r
    have e : loL x (z :: r) = min z (loL x r) := rfl
    refine ⟨by omega, fun y hy => ?_⟩
    rcases List.mem_cons.mp hy with q | q
    · rw [q]; omega
    · have := b y q; omega
theorem loL_mem (x : Int) : ∀ (r : List Int), loL x r ∈ x :: r
  | [] => List.mem_cons_self
  | z :: r => by
    have h := loL_mem x r
    have e : loL x (z :: r) = min z (loL x r) := rfl
    by_cases q : z ≤ loL x r
    · rw [e, Int.min_eq_left q]
      exact List.mem_cons_of_mem _ List.mem_cons_self
    · rw [e, Int.min_eq_right (by omega)]
      rcases List.mem_cons.mp h with w | w
      · rw [w]; exact List.mem_cons_self
      · exact List.mem_cons_of_mem _ (List.mem_cons_of_mem _ w)
theorem loL_eq {x m : Int} {r : List Int} (h : m ∈ x :: r) (l : ∀ y ∈ x :: r, m ≤ y) : m = loL x r := by
  have h1 := l _ (loL_mem x r)
  have h2 : loL x r ≤ m := by
    rcases List.mem_cons.mp h with q | q
    · rw [q]; exact (loL_le x r).1
    · exact (loL_le x r).2 m q
  omega
theorem hiL_ge (x : Int) : ∀ (r : List Int), x ≤ hiL x r ∧ ∀ y ∈ r, y ≤ hiL x r
  | [] => ⟨Int.le_refl _, fun y h => absurd h List.not_mem_nil⟩
  | z :: r => by
    obtain ⟨a, b⟩ := hiL_ge x r
    have e : hiL x (z :: r) = max z (hiL x r) := rfl
    refine ⟨by omega, fun y hy => ?_⟩
    rcases List.mem_cons.mp hy with q | q
    · rw [q]; omega
    · have := b y q; omega
theorem hiL_mem (x : Int) : ∀ (r : List Int), hiL x r ∈ x :: r
  | [] => List.mem_cons_self
  | z :: r => by
    have h := hiL_mem x r
    have e : hiL x (z :: r) = max z (hiL x r) := rfl
    by_cases q : hiL x r ≤ z
    · rw [e, Int.max_eq_left q]
      exact List.mem_cons_of_mem _ List.mem_cons_self
    · rw [e, Int.max_eq_right (by omega)]
      rcases List.mem_cons.mp h with w | w
      · rw [w]; exact List.mem_cons_self
      · exact List.mem_cons_of_mem _ (List.mem_cons_of_mem _ w)
theorem hiL_eq {x m : Int} {r : List Int} (h : m ∈ x :: r) (l : ∀ y ∈ x :: r, y ≤ m) : m = hiL x r := by
  have h1 := l _ (hiL_mem x r)
  have h2 : m ≤ hiL x r := by
    rcases List.mem_cons.mp h with q | q
    · rw [q]; exact (hiL_ge x r).1
    · exact (hiL_ge x r).2 m q
  omega
/-! ### the length of an effect -/
def places (f : Pol) (m : Int) : List Int := m :: f.map (·.1)
def lo (f : Pol) (m : Int) : Int := loL 0 (places f m)
def hi (f : Pol) (m : Int) : Int := hiL 0 (places f m)
def ft (p v : Int) : Int := if p - v < v then p - v else v
def absI (m : Int) : Int := if m < 0 then -m else m
def turnsOf (p : Int) (f : Pol) : Int := (f.map fun t => ft p t.2).sum
def lenE (p : Int) (f : Pol) (m : Int) : Int := 2 * (hi f m - lo f m) - absI m + turnsOf p f
def sp_fewest_turns : Sp := fun vs H Q _ => ∃ (p v : Int), vs = [.int p, .int v] ∧ Q (.int (ft p v)) H
def sp_cost : Sp := fun vs H Q _ => ∃ (p v : Int), vs = [.int p, .int v] ∧ 0 < v ∧ v < p ∧ Q (.int (ft p v)) H
def sp_reach (K : PySem.W.Frag) : Sp := fun vs H Q _ => ∃ (v : V) (f : Pol) (m : Int), vs = [v] ∧ TEff K H v f m ∧ f.length ≤ 100000 ∧ ∀ a H', Same H H' → SqT K H' a [.int (lo f m), .int (hi f m)] → Q (.ref a) H'
def sp_length (K : PySem.W.Frag) : Sp := fun vs H Q _ => ∃ (p : Int) (v : V) (f : Pol) (m : Int), vs = [.int p, v] ∧ TEff K H v f m ∧ f.length ≤ 100000 ∧ ∀ H', Same H H' → Q (.int (lenE p f m)) H'
def sp_size (K : PySem.W.Frag) : Sp := fun vs H Q _ => ∃ (p : Int) (v : V) (f : Pol) (m : Int), vs = [.int p, v] ∧ TEff K H v f m ∧ f.length ≤ 100000 ∧ (∀ t ∈ f, 0 < t.2 ∧ t.2 < p) ∧ ∀ H', Same H H' → Q (.int (lenE p f m)) H'
/-- [an int for x, y in a tuple of pairs] -/
theorem lcTi {K : PySem.W.Frag} {a : Addr} {xs : List V} {f : Pol} {σ : L2.St} {H : Hp} {vs : List Nat} {i j : Nat} {te tv : TE} {Q : VK} (G : Int × Int → Int) (hv : ∀ R : VK, R (.ref a) H → tv σ H R) (hs : SqT K H a xs) (hP : Prs K H xs f) (hl : f.length ≤ 100000)
    (hw : ∀ x y, wipe (((wipe σ vs).set i (some x)).set j (some y)) vs = wipe σ vs)
    (he : ∀ t ∈ f, ∀ H2, Same H H2 → ∀ R : VK, R (.int (G t)) H2 → te (((wipe σ vs).set i (some (.int t.1))).set j (some (.int t.2))) H2 R)
    (k : ∀ D H2, H D = none → Same H H2 → H2 D = some (.lst ((f.map G).map V.int)) → Q (.ref D) H2) : tLc (iTup K tv) (gTup K 2 (gCons (gName i) (gCons (gName j) gNil))) tYes te vs σ H Q := by
  refine hv _ ⟨a, rfl, ⟨_, hs⟩, fun D nD => lc_tup (K := K) (a := a) (xs := xs) (fun m H2 => Same H H2 ∧ H2 D = some (.lst (((f.take m).map G).map V.int))) ⟨same_new nD, upd_same⟩ (fun m H2 _ g => same_t g.1 hs) ?_ ?_⟩
  · rintro m x H2 hm ⟨s2, h2⟩
    obtain ⟨t, ht, b, rfl, hb⟩ := hP.get hm
    refine ⟨b, _, rfl, same_t s2 hb, rfl, _, _, rfl, _, _, rfl, rfl, hw _ _, ?_⟩
    dsimp only [tYes]
    rw [if_pos rfl]
    have hm2 : m < f.length := (List.getElem?_eq_some_iff.mp ht).1
    refine he t (List.mem_of_getElem? ht) H2 s2 _ ⟨_, h2, sl_lt (by rw [List.length_map, List.length_map, List.length_take]; omega), same_mut s2 nD, ?_⟩
    rw [upd_same, take_snoc ht, List.map_append, List.map_append]
    rfl
  · rintro H2 ⟨s2, h2⟩
    rw [hP.len, List.take_length] at h2
    exact k D H2 nD s2 h2
/-- [a pair of ints for k in range(..)], drawn by the pen -/
theorem lcPenP {K : PySem.W.Frag} {p c : Addr} {σ : L2.St} {H : Hp} {vs : List Nat} {i : Nat} {te : TE} {ta : TA} {Q : VK} (R : Int × Int → Prop) (N b cost : Nat) (hn : N ≤ 1000)
    (hw : ∀ x, wipe ((wipe σ vs).set i (some x)) vs = wipe σ vs) (pen0 : PenAt H p c 0 ∨ ∃ n, PenAt H p c n)
    (hv : ∀ S : List V → Hp → Prop, (∀ (r : Int) H1, 0 ≤ r → r ≤ (N : Int) → Kp p H H1 → PenAt H1 p c b → S [.int r] H1) → ta σ H S)
    (he : ∀ (m : Nat), m < N → ∀ H2, Kp p H H2 → PenAt H2 p c (b + cost * m) → ∀ S : VK, (∀ t H3 q, R t → H3 q = none → Kp p H2 H3 → PenAt H3 p c (b + cost * (m + 1)) → S (.ref q) (upd H3 q (.tup [.int t.1, .int t.2]))) → te ((wipe σ vs).set i (some (.int (0 + (m : Int))))) H2 S)
    (k : ∀ D H2 f, LPol K H2 (.ref D) f → f.length ≤ N → (∀ t ∈ f, R t) → Kp p H H2 → PenAt H2 p c (b + cost * N) → Q (.ref D) H2) : tLc (iRng1 ta) (gName i) tYes te vs σ H Q := by
  refine hv _ fun r H1 h0 h9 kp1 pen1 => ?_
  refine ⟨r, rfl, by omega, by omega, fun D nD => ?_⟩
  have npD := pen1.np nD
  have ncD := pen1.nc nD
  refine lc_range (lo := 0) (n := r.toNat) (fun m H2 => ∃ xs f, H2 D = some (.lst xs) ∧ Prs K H2 xs f ∧ f.length = m ∧ (∀ t ∈ f, R t) ∧ Kp p H1 H2 ∧ PenAt H2 p c (b + cost * m)) ⟨[], [], upd_same, .nil, rfl, fun t h => absurd h List.not_mem_nil, Same.kp (same_new nD), pen1.same (same_new nD)⟩ ?_ ?_
  · rintro m H2 hm ⟨xs, f, hD, hP, hl, hR, kp, pen2⟩
    refine ⟨hw _, ?_⟩
    dsimp only [tYes]
    rw [if_pos rfl]
    refine he m (by omega) H2 (kp1.trans kp) pen2 _ fun t H3 q ht nq k3 pen3 => ?_
    have hD3 : H3 D = some (.lst xs) := k3 _ _ npD hD
    have nDq : D ≠ q := ne_of_none hD3 nq
    have hD4 : upd H3 q (.tup [.int t.1, .int t.2]) D = some (.lst xs) := by
      rw [upd_ne nDq]
      exact hD3
    have t2 : Tp (upd H3 q (.tup [.int t.1, .int t.2])) (upd (upd H3 q (.tup [.int t.1, .int t.2])) D (.lst (xs ++ [.ref q]))) := tp_lst hD4
    refine ⟨xs, hD4, sl_lt (by rw [hP.len]; omega), xs ++ [.ref q], f ++ [t], upd_same, Prs.snoc (Prs.tp ((pen2.tp k3).trans ((tp_new nq).trans t2)) hP) (IsPr.tp t2 isPr_new), by rw [List.length_append, hl]; rfl, fun u hu => ?_, fun x o nx ex => ?_, (pen3.same (same_new nq)).upd npD ncD⟩
    · rcases List.mem_append.mp hu with z | z
      · exact hR u z
      · have e : u = t := by simpa using z
        rw [e]; exact ht
    · rw [upd_ne (ne_of_none ex nD)]
      have e3 := k3 _ _ nx (kp _ _ nx ex)
      rw [upd_ne (ne_of_none e3 nq)]
      exact e3
  · rintro H2 ⟨xs, f, hD, hP, hl, hR, kp, pen2⟩
    refine k D H2 f ⟨D, xs, rfl, SqL.of hD, hP⟩ (by omega) hR (kp1.trans kp) (pen2.mono ?_)
    have : r.toNat ≤ N := by omega
    exact Nat.add_le_add_left (Nat.mul_le_mul_left _ this) _
/-! ### effects that the laws draw -/
/-- canonical, of bounded size -/
structure DrE (q : Int) (g : Pol) (m : Int) (L : Nat) (B : Nat) : Prop where
  nf : Nf q g (cf g)
  len : g.length ≤ L
  abs : ∀ t ∈ g, t.1.natAbs ≤ B
  sh : m.natAbs ≤ B
def sp__law_wide : Sp := fun vs H Q _ => ∃ (p c : Addr) (most : Int) (n : Nat), vs = [.ref p, .int most] ∧ 0 ≤ most ∧ most.natAbs < 10 ^ 90 ∧ PenAt H p c n ∧ n + 7 < 2 ^ 40 ∧ ∀ r H', r.natAbs ≤ most.natAbs + 8 → Kp p H H' → PenAt H' p c (n + 7) → Q (.int r) H'
def sp__law_wide_effect (K : PySem.W.Frag) : Sp := fun vs H Q _ => ∃ (p c : Addr) (q terms most : Int) (n : Nat), vs = [.ref p, .int q, .int terms, .int most] ∧ 2 ≤ q ∧ q ≤ 97 ∧ 0 ≤ terms ∧ terms ≤ 100 ∧ 0 ≤ most ∧ most.natAbs < 10 ^ 80 ∧ PenAt H p c n ∧ n < 2 ^ 38 ∧
  ∀ v H' g sh, Kp p H H' → PenAt H' p c (n + 8 * terms.toNat + 10) → TEff K H' v g sh → DrE q g sh terms.toNat (most.natAbs + 8) → Q v H'
def sp__law_long_effect (K : PySem.W.Frag) : Sp := fun vs H Q _ => ∃ (p c : Addr) (q many : Int) (n : Nat), vs = [.ref p, .int q, .int many] ∧ 2 ≤ q ∧ q ≤ 97 ∧ 0 ≤ many ∧ many ≤ 1000 ∧ PenAt H p c n ∧ n < 2 ^ 38 ∧
  ∀ v H' g sh, Kp p H H' → PenAt H' p c (n + 5) → TEff K H' v g sh → DrE q g sh many.toNat 4000 → Q v H'
def sp__law_any_effect (K : PySem.W.Frag) : Sp := fun vs H Q _ => ∃ (p c : Addr) (q most many : Int) (n : Nat), vs = [.ref p, .int q, .int most, .int many] ∧ 2 ≤ q ∧ q ≤ 97 ∧ 0 ≤ most ∧ most.natAbs < 10 ^ 80 ∧ 0 ≤ many ∧ many ≤ 1000 ∧ PenAt H p c n ∧ n < 2 ^ 37 ∧
  ∀ v H' g sh, Kp p H H' → PenAt H' p c (n + 60) → TEff K H' v g sh → DrE q g sh 1000 (most.natAbs + 4000) → Q v H'
end DR
namespace DR
open PySem PySem.Spec PyProof.Rows L2
theorem iteS {c A B : Prop} [Decidable c] (hc : c) (h : A) : if decide c = true then A else B := by
  rw [if_pos (decide_eq_true hc)]
  exact h
theorem iteN {c A B : Prop} [Decidable c] (hc : ¬ c) (h : B) : if decide c = true then A else B := by
  rw [if_neg (by rw [decide_eq_false hc]; exact Bool.false_ne_true)]
  exact h
theorem iteNN {c A B : Prop} [Decidable c] (hc : ¬ c) (h : A) : if (!decide c) = true then A else B := by
  rw [if_pos (by rw [decide_eq_false hc]; rfl)]
  exact h
theorem v_ts : ¬ (V.str "turn" = V.str "step") := by decide +kernel
theorem v_rs : ¬ (V.str "repeat" = V.str "step") := by decide +kernel
theorem v_sr : ¬ (V.str "step" = V.str "repeat") := by decide +kernel
theorem v_tr : ¬ (V.str "turn" = V.str "repeat") := by decide +kernel
theorem v_rt : ¬ (V.str "repeat" = V.str "turn") := by decide +kernel
theorem v_st : ¬ (V.str "step" = V.str "turn") := by decide +kernel
/-! ### a def that calls itself: a level for each depth -/
theorem cal_rec {P : Program} {w : World} {K : PySem.W.Frag} {mg : Str → Option Value} {base : Heap} {x : Str} {st : Stmt} {ps : List Str} (c : Nat) {sp : Nat → Sp} (D : Df K mg x st)
    (b : ∀ (kV doc pm : Value) (an : Option Addr) (cdv ct : Value) (us : List Value), us.length = ps.length → bindArgs (PySem.W.fnOf x x (defArgs st) (defBody st) (defScope st) .none kV doc pm an cdv ct) ⟨us, []⟩ = pure (ps.zip us))
    (h0 : ∀ vs H Q E, ¬ sp 0 vs H Q E)
    (step : ∀ k, Cal P w K mg base (k + c) x (sp k) → ∀ f fd, Fun K x x st f fd → FnOk P w K mg base CX0 (k + c + 1) f fd ps (sp (k + 1))) : ∀ k, Cal P w K mg base (k + c) x (sp k)
  | 0 => by
    obtain ⟨f, fd, F, hm, kp⟩ := D.ex
    exact ⟨f, fd, ps, ⟨fun vs H Q E h => absurd h (h0 vs H Q E), fun A outer s H args us vs Q E _ _ _ _ h => absurd h (h0 vs H Q E)⟩, hm, kp, F.binds b⟩
  | k + 1 => by
    obtain ⟨f, fd, F, hm, kp⟩ := D.ex
    have := step k (cal_rec c D b h0 step k) f fd F
    exact ⟨f, fd, ps, (show k + c + 1 = k + 1 + c by omega) ▸ this, hm, kp, F.binds b⟩
/-! ### programs in the heap -/
def PV (K : PySem.W.Frag) (H : Hp) (v : V) (b : List Ins) : Prop := ∃ d, Dp K H v d ∧ IsP d b
def IV (K : PySem.W.Frag) (H : Hp) (v : V) (i : Ins) : Prop := ∃ d, Dp K H v d ∧ IsI d i
abbrev IVs (K : PySem.W.Frag) (H : Hp) : List V → List Ins → Prop := Paired (IV K H)
section
variable {K : PySem.W.Frag} {H H' : Hp} {v x : V} {b : List Ins} {i : Ins} {xs : List V}
theorem PV.same (e : Same H H') (h : PV K H v b) : PV K H' v b := h.elim fun d z => ⟨d, Dp.same e z.1, z.2⟩
theorem IV.same (e : Same H H') (h : IV K H v i) : IV K H' v i := h.elim fun d z => ⟨d, Dp.same e z.1, z.2⟩
theorem PV.kp {p c : Addr} {n : Nat} (pen : PenAt H p c n) (k : Kp p H H') (h : PV K H v b) : PV K H' v b := h.elim fun d z => ⟨d, Dp.kp pen k z.1, z.2⟩
theorem IV.kp {p c : Addr} {n : Nat} (pen : PenAt H p c n) (k : Kp p H H') (h : IV K H v i) : IV K H' v i := h.elim fun d z => ⟨d, Dp.kp pen k z.1, z.2⟩
theorem IVs.same (e : Same H H') : ∀ {xs : List V} {b : List Ins}, IVs K H xs b → IVs K H' xs b
  | _, _, .nil => .nil
  | _, _, .cons r q => .cons (r.same e) (IVs.same e q)
theorem IVs.kp {p c : Addr} {n : Nat} (pen : PenAt H p c n) (k : Kp p H H') : ∀ {xs : List V} {b : List Ins}, IVs K H xs b → IVs K H' xs b
  | _, _, .nil => .nil
  | _, _, .cons r q => .cons (r.kp pen k) (IVs.kp pen k q)
theorem IVs.len (h : IVs K H xs b) : xs.length = b.length := Paired.length h
theorem IVs.get : ∀ {xs : List V} {b : List Ins} {j : Nat} {x : V}, IVs K H xs b → xs[j]? = some x → ∃ i, b[j]? = some i ∧ IV K H x i
  | _, _, _, _, .nil, e => by simp at e
  | _, _, 0, _, .cons r _, e => by
    simp at e
    subst e
    exact ⟨_, rfl, r⟩
  | _, _, j + 1, x, .cons _ q, e => by
    obtain ⟨t, h1, h2⟩ := IVs.get (j := j) (x := x) q (by simpa using e)
    exact ⟨t, by simpa using h1, h2⟩
theorem IVs.app : ∀ {xs ys : List V} {b c : List Ins}, IVs K H xs b → IVs K H ys c → IVs K H (xs ++ ys) (b ++ c)
  | _, _, _, _, .nil, h => h
  | _, _, _, _, .cons r q, h => .cons r (IVs.app q h)
theorem IVs.take : ∀ {xs : List V} {b : List Ins} (n : Nat), IVs K H xs b → IVs K H (xs.take n) (b.take n)
  | _, _, 0, _ => .nil
  | _, _, n + 1, .nil => .nil
  | _, _, n + 1, .cons r q => .cons r (IVs.take n q)
theorem IVs.drop : ∀ {xs : List V} {b : List Ins} (n : Nat), IVs K H xs b → IVs K H (xs.drop n) (b.drop n)
  | _, _, 0, h => h
  | _, _, n + 1, .nil => .nil
  | _, _, n + 1, .cons r q => IVs.drop n q
theorem IVs.all : ∀ {xs : List V} {b : List Ins}, IVs K H xs b → ∃ ds, DpAll K H xs ds ∧ IsAll ds b
  | _, _, .nil => ⟨[], .nil, .nil⟩
  | _, _, .cons ⟨d, h1, h2⟩ q => by
    obtain ⟨ds, a1, a2⟩ := IVs.all q
    exact ⟨d :: ds, .cons h1 a1, .cons h2 a2⟩
theorem ivs_of : ∀ {xs : List V} {ds : List PyData} {b : List Ins}, DpAll K H xs ds → IsAll ds b → IVs K H xs b
  | _, _, _, .nil, .nil => .nil
  | _, _, _, .cons h t, .cons h2 t2 => .cons ⟨_, h, h2⟩ (ivs_of t t2)
theorem pv_list {a : Addr} (h : SqL K H a xs) (hI : IVs K H xs b) : PV K H (.ref a) b := by
  obtain ⟨ds, a1, a2⟩ := hI.all
  exact ⟨_, .lst h a1, .lst a2⟩
theorem pv_tup {a : Addr} (h : SqT K H a xs) (hI : IVs K H xs b) : PV K H (.ref a) b := by
  obtain ⟨ds, a1, a2⟩ := hI.all
  exact ⟨_, .tup h a1, .tup a2⟩
theorem PV.inv (h : PV K H v b) : ∃ a xs, v = .ref a ∧ (SqL K H a xs ∨ SqT K H a xs) ∧ IVs K H xs b := by
  obtain ⟨d, hd, hp⟩ := h
  cases hp with
  | lst ha =>
    cases hd with
    | lst hs hall => exact ⟨_, _, rfl, .inl hs, ivs_of hall ha⟩
  | tup ha =>
    cases hd with
    | tup hs hall => exact ⟨_, _, rfl, .inr hs, ivs_of hall ha⟩
theorem IV.inv (h : IV K H x i) : (∃ a c, x = .ref a ∧ SqT K H a [.str "step", .int c] ∧ i = .step c) ∨ (∃ a c, x = .ref a ∧ SqT K H a [.str "turn", .int c] ∧ i = .turn c) ∨
    ∃ a n y bb, x = .ref a ∧ SqT K H a [.str "repeat", .int n, y] ∧ PV K H y bb ∧ i = .rep n bb := by
  obtain ⟨d, hd, hi⟩ := h
  cases hi with
  | step c =>
    obtain ⟨a, xs, rfl, hs, hall⟩ := Dp.tup_inv hd
    cases hall with
    | cons h1 t =>
      cases t with
      | cons h2 t2 =>
        cases t2
        cases h1
        cases h2
        exact .inl ⟨a, c, rfl, hs, rfl⟩
  | turn c =>
    obtain ⟨a, xs, rfl, hs, hall⟩ := Dp.tup_inv hd
    cases hall with
    | cons h1 t =>
      cases t with
      | cons h2 t2 =>
        cases t2
        cases h1
        cases h2
        exact .inr (.inl ⟨a, c, rfl, hs, rfl⟩)
  | rep n hp =>
    obtain ⟨a, xs, rfl, hs, hall⟩ := Dp.tup_inv hd
    cases hall with
    | cons h1 t =>
      cases t with
      | cons h2 t2 =>
        cases t2 with
        | cons h3 t3 =>
          cases t3
          cases h1
          cases h2
          exact .inr (.inr ⟨a, n, _, _, rfl, hs, ⟨_, h3, hp⟩, rfl⟩)
theorem iv_step {a : Addr} {c : Int} (h : SqT K H a [.str "step", .int c]) : IV K H (.ref a) (.step c) := ⟨_, .tup h (.cons (.str _) (.cons (.int _) .nil)), .step c⟩
theorem iv_turn {a : Addr} {c : Int} (h : SqT K H a [.str "turn", .int c]) : IV K H (.ref a) (.turn c) := ⟨_, .tup h (.cons (.str _) (.cons (.int _) .nil)), .turn c⟩
theorem iv_rep {a : Addr} {n : Int} {y : V} {bb : List Ins} (h : SqT K H a [.str "repeat", .int n, y]) (hp : PV K H y bb) : IV K H (.ref a) (.rep n bb) := by
  obtain ⟨d, hd, hp⟩ := hp
  exact ⟨_, .tup h (.cons (.str _) (.cons (.int _) (.cons hd .nil))), .rep n hp⟩
end
/-! flat instructions: steps and turns alone; they stay while tuples stay -/
def FI (K : PySem.W.Frag) (H : Hp) (x : V) (i : Ins) : Prop := (∃ a c, x = .ref a ∧ SqT K H a [.str "step", .int c] ∧ i = .step c) ∨ (∃ a c, x = .ref a ∧ SqT K H a [.str "turn", .int c] ∧ i = .turn c)
abbrev FIs (K : PySem.W.Frag) (H : Hp) : List V → List Ins → Prop := Paired (FI K H)
section
variable {K : PySem.W.Frag} {H H' : Hp} {v x : V} {b : List Ins} {i : Ins} {xs : List V}
theorem FI.tp (t : Tp H H') (h : FI K H x i) : FI K H' x i := by
  rcases h with ⟨a, c, e, hs, ei⟩ | ⟨a, c, e, hs, ei⟩
  · exact .inl ⟨a, c, e, tp_t t hs, ei⟩
  · exact .inr ⟨a, c, e, tp_t t hs, ei⟩
theorem FI.iv (h : FI K H x i) : IV K H x i := by
  rcases h with ⟨a, c, rfl, hs, rfl⟩ | ⟨a, c, rfl, hs, rfl⟩
  · exact iv_step hs
  · exact iv_turn hs
theorem FIs.tp (t : Tp H H') : ∀ {xs : List V} {b : List Ins}, FIs K H xs b → FIs K H' xs b
  | _, _, .nil => .nil
  | _, _, .cons r q => .cons (r.tp t) (FIs.tp t q)
theorem FIs.ivs : ∀ {xs : List V} {b : List Ins}, FIs K H xs b → IVs K H xs b
  | _, _, .nil => .nil
  | _, _, .cons r q => .cons r.iv (FIs.ivs q)
theorem FIs.snoc : ∀ {xs : List V} {b : List Ins}, FIs K H xs b → FI K H x i → FIs K H (xs ++ [x]) (b ++ [i])
  | _, _, .nil, h => .cons h .nil
  | _, _, .cons r q, h => .cons r (FIs.snoc q h)
theorem FIs.len (h : FIs K H xs b) : xs.length = b.length := Paired.length h
end
def isFlat : Ins → Prop
  | .rep _ _ => False
  | _ => True
def cntOf : Ins → Int
  | .step c => c
  | .turn c => c
  | .rep n _ => n
/-- a body of steps and turns: so many, with counts within reach -/
structure Flat (b : List Ins) (N : Nat) (R : Nat) : Prop where
  len : b.length ≤ N
  flat : ∀ i ∈ b, isFlat i
  cnt : ∀ i ∈ b, (cntOf i).natAbs ≤ R
theorem Flat.dp : ∀ {b : List Ins} {N R : Nat}, Flat b N R → dpP b = 0
  | [], _, _, _ => by unfold dpP; rfl
  | i :: r, N, R, h => by
    have h1 := h.flat i List.mem_cons_self
    have h2 : dpI i = 0 := by cases i <;> first | exact absurd h1 id | (rw [dpI])
    rw [dpP_cons, h2, Flat.dp (b := r) (N := N) (R := R) ⟨by have := h.len; rw [List.length_cons] at this; omega, fun j hj => h.flat j (List.mem_cons_of_mem _ hj), fun j hj => h.cnt j (List.mem_cons_of_mem _ hj)⟩]
    rfl
theorem Flat.w : ∀ {b : List Ins} {N R : Nat}, Flat b N R → R ≤ 2 ^ 100 → WP b
  | [], _, _, _, _ => by rw [WP]; trivial
  | i :: r, N, R, h, hR => by
    have h1 := h.flat i List.mem_cons_self
    have h3 := h.cnt i List.mem_cons_self
    rw [WP_cons]
    refine ⟨?_, Flat.w (b := r) (N := N) (R := R) ⟨by have := h.len; rw [List.length_cons] at this; omega, fun j hj => h.flat j (List.mem_cons_of_mem _ hj), fun j hj => h.cnt j (List.mem_cons_of_mem _ hj)⟩ hR⟩
    cases i with
    | step c => rw [WI]; exact Nat.le_trans h3 hR
    | turn c => rw [WI]; exact Nat.le_trans h3 hR
    | rep n b => exact absurd h1 id
theorem Flat.cn : ∀ {b : List Ins} {N R : Nat}, Flat b N R → cnP b = b.length
  | [], _, _, _ => by unfold cnP; rfl
  | i :: r, N, R, h => by
    have h1 := h.flat i List.mem_cons_self
    have h2 : cnI i = 1 := by cases i <;> first | exact absurd h1 id | (rw [cnI])
    rw [cnP_cons, h2, Flat.cn (b := r) (N := N) (R := R) ⟨by have := h.len; rw [List.length_cons] at this; omega, fun j hj => h.flat j (List.mem_cons_of_mem _ hj), fun j hj => h.cnt j (List.mem_cons_of_mem _ hj)⟩, List.length_cons]
    omega
/-- a program of the laws: depth, counts, how many instructions -/
structure PrOk (b : List Ins) (k N : Nat) : Prop where
  dp : dpP b ≤ k
  w : WP b
  cn : cnP b ≤ N
theorem Flat.ok {b : List Ins} {N R : Nat} (h : Flat b N R) (hR : R ≤ 2 ^ 100) : PrOk b 0 N := ⟨Nat.le_of_eq h.dp, h.w hR, by rw [h.cn]; exact h.len⟩
theorem PrOk.app {b c : List Ins} {k j N M : Nat} (h : PrOk b k N) (h2 : PrOk c j M) : PrOk (b ++ c) (max k j) (N + M) := ⟨by rw [dpP_app]; have := h.dp; have := h2.dp; omega, WP_app _ _ h.w h2.w, by rw [cnP_app]; have := h.cn; have := h2.cn; omega⟩
theorem PrOk.rep {b : List Ins} {k N : Nat} (h : PrOk b k N) (hN : N ≤ 1024) {n : Int} (hn : n.natAbs ≤ 2 ^ 100) : PrOk [.rep n b] (k + 1) (N + 1) := by
  refine ⟨?_, ?_, ?_⟩
  · rw [dpP_cons, dpI, show dpP [] = 0 by unfold dpP; rfl]
    have := h.dp
    omega
  · rw [WP_cons, WI]
    exact ⟨⟨hn, Nat.le_trans (len_cnP b) (Nat.le_trans h.cn hN), h.w⟩, by rw [WP]; trivial⟩
  · rw [cnP_cons, cnI, show cnP [] = 0 by unfold cnP; rfl]
    have := h.cn
    omega
theorem PrOk.up {b : List Ins} {k N k' N' : Nat} (h : PrOk b k N) (a : k ≤ k') (c : N ≤ N') : PrOk b k' N' := ⟨Nat.le_trans h.dp a, h.w, Nat.le_trans h.cn c⟩
def sp_shift_of (K : PySem.W.Frag) (k : Nat) : Sp := fun vs H Q _ => ∃ (v : V) (b : List Ins), vs = [v] ∧ PV K H v b ∧ dpP b < k ∧ k ≤ 3 ∧ WP b ∧ b.length ≤ 1024 ∧ Q (.int (shP b)) H
def sp_executed (K : PySem.W.Frag) (k : Nat) : Sp := fun vs H Q _ => ∃ (v : V) (b : List Ins), vs = [v] ∧ PV K H v b ∧ dpP b < k ∧ k ≤ 3 ∧ WP b ∧ b.length ≤ 1024 ∧ Q (.int (exP b)) H
theorem shP_snoc {b : List Ins} {j : Nat} {i : Ins} (h : b[j]? = some i) : shP (b.take (j + 1)) = shP (b.take j) + shI i := by
  rw [take_snoc h, shP_app, shP_cons, shP_nil, Int.add_zero]
theorem exP_snoc {b : List Ins} {j : Nat} {i : Ins} (h : b[j]? = some i) : exP (b.take (j + 1)) = exP (b.take j) + exI i := by
  rw [take_snoc h, exP_app, exP_cons, exP_nil, Int.add_zero]
theorem sh_lt {b : List Ins} {k : Nat} (h : dpP b < k) (hk : k ≤ 3) (w : WP b) (l : b.length ≤ 1024) : (shP b).natAbs < 2 ^ 331 := by
  have := sh_big 2 b (by omega) w l
  exact Nat.lt_of_le_of_lt this (by decide +kernel)
theorem ex_lt {b : List Ins} {k : Nat} (h : dpP b < k) (hk : k ≤ 3) (w : WP b) (l : b.length ≤ 1024) : (exP b).natAbs < 2 ^ 331 := by
  have := ex_big 2 b (by omega) w l
  exact Nat.lt_of_le_of_lt this (by decide +kernel)
def sp__law_body (K : PySem.W.Frag) : Sp := fun vs H Q _ => ∃ (p c : Addr) (most reach : Int) (n : Nat), vs = [.ref p, .int most, .int reach] ∧ 0 ≤ most ∧ most ≤ 100 ∧ 0 ≤ reach ∧ reach.natAbs < 10 ^ 90 ∧ PenAt H p c n ∧ n < 2 ^ 39 ∧
  ∀ D xs b H', H D = none → Kp p H H' → PenAt H' p c (n + 3 * most.toNat + 1) → H' D = some (.lst xs) → FIs K H' xs b → Flat b most.toNat (reach.natAbs + 3) → Q (.ref D) H'
end DR
/-! ### the tokens of programs, and how they are read -/
namespace DR
open PySem PySem.Spec PyProof.Rows L2 TL
mutual
def tkI : Ins → List Str
  | .step c => ["step", ctS c]
  | .turn c => ["turn", ctS c]
  | .rep n b => [("repeat" : Str), ctS n, "["] ++ (tkP b ++ [("]" : Str)])
def tkP : List Ins → List Str
  | [] => []
  | i :: r => tkI i ++ tkP r
end
theorem tkP_nil : tkP [] = [] := by unfold tkP; rfl
theorem tkP_cons (i : Ins) (r : List Ins) : tkP (i :: r) = tkI i ++ tkP r := by rw [tkP]
theorem tkP_app : ∀ a b : List Ins, tkP (a ++ b) = tkP a ++ tkP b
  | [], b => by rw [List.nil_append, tkP_nil, List.nil_append]
  | i :: r, b => by rw [List.cons_append, tkP_cons, tkP_cons, tkP_app r b, List.append_assoc]
theorem tkI_ne (i : Ins) : tkI i ≠ [] := by cases i <;> unfold tkI <;> simp
/-! how many repeats -/
mutual
def rpI : Ins → Nat
  | .step _ => 0
  | .turn _ => 0
  | .rep _ b => rpP b + 1
def rpP : List Ins → Nat
  | [] => 0
  | i :: r => rpI i + rpP r
end
theorem rpP_nil : rpP [] = 0 := by unfold rpP; rfl
theorem rpP_cons (i : Ins) (r : List Ins) : rpP (i :: r) = rpI i + rpP r := by rw [rpP]
theorem cnP_nil' : cnP [] = 0 := by unfold cnP; rfl
/-! counts as the document bounds them -/
mutual
def CtI : Ins → Prop
  | .step c => c.natAbs ≤ 10 ^ 30
  | .turn c => c.natAbs ≤ 10 ^ 30
  | .rep n b => 0 ≤ n ∧ n ≤ 10 ^ 30 ∧ CtP b
def CtP : List Ins → Prop
  | [] => True
  | i :: r => CtI i ∧ CtP r
end
theorem CtP_cons (i : Ins) (r : List Ins) : CtP (i :: r) = (CtI i ∧ CtP r) := by rw [CtP]
theorem CtP_mem : ∀ {b : List Ins} {i : Ins}, CtP b → i ∈ b → CtI i
  | [], _, _, h => absurd h List.not_mem_nil
  | j :: r, i, w, h => by
    rw [CtP_cons] at w
    rcases List.mem_cons.mp h with e | e
    · rw [e]; exact w.1
    · exact CtP_mem w.2 e
/-! no blank in a token, none empty, few signs -/
theorem word_free : (32 ∉ tl ("step" : Str) ∧ 32 ∉ tl ("turn" : Str) ∧ 32 ∉ tl ("repeat" : Str) ∧ 32 ∉ tl ("[" : Str) ∧ 32 ∉ tl ("]" : Str)) ∧
    (tl ("step" : Str) ≠ [] ∧ tl ("turn" : Str) ≠ [] ∧ tl ("repeat" : Str) ≠ [] ∧ tl ("[" : Str) ≠ [] ∧ tl ("]" : Str) ≠ []) := by decide +kernel
mutual
theorem tkI_free : ∀ {i : Ins} {t : Str}, t ∈ tkI i → 32 ∉ tl t ∧ tl t ≠ []
  | .step c, t, h => by
    unfold tkI at h
    rcases List.mem_cons.mp h with rfl | h
    · exact ⟨word_free.1.1, word_free.2.1⟩
    · rw [List.mem_singleton.mp h]
      exact ⟨ct_free c, ct_ne c⟩
  | .turn c, t, h => by
    unfold tkI at h
    rcases List.mem_cons.mp h with rfl | h
    · exact ⟨word_free.1.2.1, word_free.2.2.1⟩
    · rw [List.mem_singleton.mp h]
      exact ⟨ct_free c, ct_ne c⟩
  | .rep n b, t, h => by
    rw [tkI] at h
    rcases List.mem_append.mp h with h | h
    · rcases List.mem_cons.mp h with rfl | h
      · exact ⟨word_free.1.2.2.1, word_free.2.2.2.1⟩
      rcases List.mem_cons.mp h with rfl | h
      · exact ⟨ct_free n, ct_ne n⟩
      rw [List.mem_singleton.mp h]
      exact ⟨word_free.1.2.2.2.1, word_free.2.2.2.2.1⟩
    · rcases List.mem_append.mp h with h | h
      · exact tkP_free h
      · rw [List.mem_singleton.mp h]
        exact ⟨word_free.1.2.2.2.2, word_free.2.2.2.2.2⟩
theorem tkP_free : ∀ {b : List Ins} {t : Str}, t ∈ tkP b → 32 ∉ tl t ∧ tl t ≠ []
  | [], t, h => by
    rw [tkP_nil] at h
    exact absurd h List.not_mem_nil
  | i :: r, t, h => by
    rw [tkP_cons] at h
    rcases List.mem_append.mp h with h | h
    · exact tkI_free h
    · exact tkP_free h
end
mutual
theorem tkI_len : ∀ {i : Ins}, CtI i → (tkI i).length ≤ 4 * cnI i ∧ ∀ t ∈ tkI i, t.length ≤ 32
  | .step c, h => by
    rw [CtI] at h
    rw [tkI, cnI]
    refine ⟨(by decide : 2 ≤ 4 * 1), fun t ht => ?_⟩
    rcases List.mem_cons.mp ht with rfl | ht
    · exact (by decide +kernel : ("step" : Str).length ≤ 32)
    · rw [List.mem_singleton.mp ht]
      exact ct_short h
  | .turn c, h => by
    rw [CtI] at h
    rw [tkI, cnI]
    refine ⟨(by decide : 2 ≤ 4 * 1), fun t ht => ?_⟩
    rcases List.mem_cons.mp ht with rfl | ht
    · exact (by decide +kernel : ("turn" : Str).length ≤ 32)
    · rw [List.mem_singleton.mp ht]
      exact ct_short h
  | .rep n b, h => by
    rw [CtI] at h
    have ih := tkP_len h.2.2
    rw [tkI, cnI]
    refine ⟨?_, fun t ht => ?_⟩
    · rw [List.length_append, List.length_append]
      have := ih.1
      show 3 + ((tkP b).length + 1) ≤ _
      omega
    · rcases List.mem_append.mp ht with ht | ht
      · rcases List.mem_cons.mp ht with rfl | ht
        · exact (by decide +kernel : ("repeat" : Str).length ≤ 32)
        rcases List.mem_cons.mp ht with rfl | ht
        · exact ct_short (by omega)
        rw [List.mem_singleton.mp ht]
        exact (by decide +kernel : ("[" : Str).length ≤ 32)
      · rcases List.mem_append.mp ht with ht | ht
        · exact ih.2 t ht
        · rw [List.mem_singleton.mp ht]
          exact (by decide +kernel : ("]" : Str).length ≤ 32)
theorem tkP_len : ∀ {b : List Ins}, CtP b → (tkP b).length ≤ 4 * cnP b ∧ ∀ t ∈ tkP b, t.length ≤ 32
  | [], _ => by
    rw [tkP_nil, cnP_nil']
    exact ⟨Nat.le_refl _, fun t ht => absurd ht List.not_mem_nil⟩
  | i :: r, h => by
    rw [CtP_cons] at h
    have h1 := tkI_len h.1
    have h2 := tkP_len h.2
    rw [tkP_cons, cnP_cons]
    refine ⟨by rw [List.length_append]; omega, fun t ht => ?_⟩
    rcases List.mem_append.mp ht with ht | ht
    · exact h1.2 t ht
    · exact h2.2 t ht
end
/-- the text of a program -/
def txP (b : List Ins) : Str := jn (tkP b)
theorem sum_le {α : Type} (f : α → Nat) (M : Nat) : ∀ {l : List α}, (∀ x ∈ l, f x ≤ M) → (l.map f).sum ≤ l.length * M
  | [], _ => by simp
  | x :: l, h => by
    have h1 := h x List.mem_cons_self
    have h2 := sum_le f M fun y hy => h y (List.mem_cons_of_mem _ hy)
    rw [List.map_cons, List.sum_cons, List.length_cons, Nat.succ_mul]
    omega
theorem tx_len {b : List Ins} (h : CtP b) : (txP b).length ≤ 132 * cnP b := by
  have ⟨h1, h2⟩ := tkP_len h
  have h3 := jn_len (tkP b)
  have h4 := sum_le (fun t : Str => t.length + 1) 33 (l := tkP b) fun t ht => by have := h2 t ht; omega
  unfold txP
  have : (tkP b).length * 33 ≤ 4 * cnP b * 33 := Nat.mul_le_mul_right _ h1
  omega
/-- what a text is split into: nothing for the empty text -/
def tksOf (t : Str) : List Str := if t.length = 0 then [] else Txt.split t " "
theorem tx_back (b : List Ins) : tksOf (txP b) = tkP b := by
  unfold tksOf txP
  by_cases h : tkP b = []
  · rw [h, jn_nil, if_pos (by decide)]
  · have ne := jn_ne h fun t ht => (tkP_free ht).2
    rw [if_neg (by rw [len_tl]; exact fun z => ne (List.length_eq_zero_iff.mp z)), split_jn h fun t ht => (tkP_free ht).1]
/-! ### the reader -/
structure RS where
  p : Nat
  n : Nat
  r : Nat
inductive Rd (α : Type) where
  | bad (k : Nat)
  | ok (a : α) (s : RS)
def rdW (T : List Str) (k : Nat) (s : RS) : Rd Str := match T[s.p]? with
  | none => .bad s.p
  | some w => if ¬ (w = "step" ∨ w = "turn" ∨ w = "repeat") ∨ s.n = 100 then .bad s.p else
      if w = "repeat" ∧ (k = 0 ∨ s.r = 5) then .bad s.p else .ok w ⟨s.p + 1, s.n + 1, if w = "repeat" then s.r + 1 else s.r⟩
def rdC (T : List Str) (least : Int) (s : RS) : Rd Int := match T[s.p]? with
  | none => .bad s.p
  | some t => match ctOf t with
    | none => .bad s.p
    | some c => if c < least then .bad s.p else .ok c ⟨s.p + 1, s.n, s.r⟩
def rdB (T : List Str) (s : RS) : Rd Unit := match T[s.p]? with
  | none => .bad s.p
  | some t => if t = "[" then .ok () ⟨s.p + 1, s.n, s.r⟩ else .bad s.p
def rdL (T : List Str) (one : RS → Rd Ins) : Nat → RS → Rd (List Ins)
  | 0, s => .bad s.p
  | f + 1, s => match T[s.p]? with
    | none => .bad s.p
    | some t => if t = "]" then .ok [] ⟨s.p + 1, s.n, s.r⟩ else match one s with
      | .bad q => .bad q
      | .ok i s1 => match rdL T one f s1 with
        | .bad q => .bad q
        | .ok is s2 => .ok (i :: is) s2
def rdO (T : List Str) (k : Nat) (inner : RS → Rd (List Ins)) (s : RS) : Rd Ins := match rdW T k s with
  | .bad q => .bad q
  | .ok w s1 => if w ≠ "repeat" then (match rdC T (-(10 ^ 30)) s1 with
      | .bad q => .bad q
      | .ok c s2 => .ok (if w = "step" then .step c else .turn c) s2) else (match rdC T 0 s1 with
      | .bad q => .bad q
      | .ok c s2 => match rdB T s2 with
        | .bad q => .bad q
        | .ok _ s3 => match inner s3 with
          | .bad q => .bad q
          | .ok b s4 => .ok (.rep c b) s4)
def rdI (T : List Str) : Nat → RS → Rd Ins
  | 0 => rdO T 0 fun s => .bad s.p
  | k + 1 => rdO T (k + 1) fun s => rdL T (rdI T k) (T.length + 1) s
def rdP (T : List Str) : Nat → RS → Rd (List Ins)
  | 0, s => .bad s.p
  | f + 1, s => if s.p = T.length then .ok [] s else match rdI T 2 s with
    | .bad q => .bad q
    | .ok i s1 => match rdP T f s1 with
      | .bad q => .bad q
      | .ok is s2 => .ok (i :: is) s2
def readT (T : List Str) : Rd (List Ins) := rdP T (T.length + 1) ⟨0, 0, 0⟩
/-! each reading goes on, within the tokens -/
theorem rdW_ok {T : List Str} {k : Nat} {s s1 : RS} {w : Str} (h : rdW T k s = .ok w s1) : T[s.p]? = some w ∧ s1.p = s.p + 1 ∧ s1.n = s.n + 1 ∧ s.n ≠ 100 ∧ (w = "step" ∨ w = "turn" ∨ w = "repeat") ∧ s1.r = (if w = "repeat" then s.r + 1 else s.r) ∧ (w = "repeat" → k ≠ 0 ∧ s.r ≠ 5) := by
  unfold rdW at h
  split at h
  · cases h
  · next w' e =>
    split at h
    · cases h
    · next g1 =>
      split at h
      · cases h
      · next g2 =>
        cases h
        refine ⟨e, rfl, rfl, fun z => g1 (.inr z), ?_, rfl, fun z => ⟨fun y => g2 ⟨z, .inl y⟩, fun y => g2 ⟨z, .inr y⟩⟩⟩
        exact Decidable.not_not.mp fun z => g1 (.inl z)
theorem rdC_ok {T : List Str} {m : Int} {s s1 : RS} {c : Int} (h : rdC T m s = .ok c s1) : s.p < T.length ∧ s1.p = s.p + 1 ∧ s1.n = s.n ∧ s1.r = s.r ∧ m ≤ c ∧ c.natAbs ≤ 10 ^ 30 := by
  unfold rdC at h
  split at h
  · cases h
  · next t e =>
    split at h
    · cases h
    · next c' e2 =>
      split at h
      · cases h
      · next g =>
        cases h
        refine ⟨(List.getElem?_eq_some_iff.mp e).1, rfl, rfl, rfl, by omega, ?_⟩
        unfold ctOf at e2
        split at e2
        · next g2 =>
          cases e2
          exact g2.2
        · cases e2
theorem rdB_ok {T : List Str} {s s1 : RS} {u : Unit} (h : rdB T s = .ok u s1) : s.p < T.length ∧ s1.p = s.p + 1 ∧ s1.n = s.n ∧ s1.r = s.r := by
  unfold rdB at h
  split at h
  · cases h
  · next t e =>
    split at h
    · cases h
      exact ⟨(List.getElem?_eq_some_iff.mp e).1, rfl, rfl, rfl⟩
    · cases h
/-- what may be said of a reading: it goes on, n and r count what was read, counts and depth are bounded -/
structure GoI (T : List Str) (k : Nat) (s : RS) (i : Ins) (s1 : RS) : Prop where
  p : s.p < s1.p
  q : s1.p ≤ T.length
  n : s1.n = s.n + cnI i
  n1 : s.n < 100 → s1.n ≤ 100
  r : s1.r = s.r + rpI i
  r1 : s.r ≤ 5 → s1.r ≤ 5
  g : CtI i
  d : dpI i ≤ k
structure GoP (T : List Str) (k : Nat) (s : RS) (b : List Ins) (s1 : RS) : Prop where
  p : s.p ≤ s1.p
  q : s1.p ≤ T.length
  n : s1.n = s.n + cnP b
  n1 : s.n ≤ 100 → s1.n ≤ 100
  r : s1.r = s.r + rpP b
  r1 : s.r ≤ 5 → s1.r ≤ 5
  g : CtP b
  d : dpP b ≤ k
theorem dpP_nil' : dpP [] = 0 := by unfold dpP; rfl
theorem rdL_ok {T : List Str} {one : RS → Rd Ins} {k : Nat} (h1 : ∀ s i s1, s.p ≤ T.length → s.n ≤ 100 → one s = .ok i s1 → GoI T k s i s1 ∧ s1.n ≤ 100) : ∀ {f : Nat} {s s1 : RS} {b : List Ins}, s.p ≤ T.length → s.n ≤ 100 → rdL T one f s = .ok b s1 → GoP T k s b s1 ∧ s.p < s1.p
  | 0, s, s1, b, _, _, h => by
    unfold rdL at h
    cases h
  | f + 1, s, s1, b, hp, hn, h => by
    unfold rdL at h
    split at h
    · cases h
    · next t e =>
      have hlt := (List.getElem?_eq_some_iff.mp e).1
      split at h
      · cases h
        exact ⟨⟨Nat.le_succ _, hlt, by rw [cnP_nil']; rfl, fun z => z, by rw [rpP_nil]; rfl, fun z => z, by unfold CtP; trivial, by rw [dpP_nil']; exact Nat.zero_le _⟩, Nat.lt_succ_self _⟩
      · split at h
        · cases h
        · next i s2 e2 =>
          obtain ⟨g, gn⟩ := h1 _ _ _ hp hn e2
          split at h
          · cases h
          · next is s3 e3 =>
            cases h
            obtain ⟨G, gp⟩ := rdL_ok h1 (f := f) g.q gn e3
            refine ⟨⟨by have := g.p; omega, G.q, by rw [G.n, g.n, cnP_cons, Nat.add_assoc], fun _ => G.n1 gn, by rw [G.r, g.r, rpP_cons, Nat.add_assoc], fun z => G.r1 (g.r1 z), by rw [CtP_cons]; exact ⟨g.g, G.g⟩, ?_⟩, by have := g.p; omega⟩
            rw [dpP_cons]
            have := g.d
            have := G.d
            omega
theorem rdO_ok {T : List Str} {k : Nat} {inner : RS → Rd (List Ins)} {s s1 : RS} {i : Ins} (hin : ∀ s b s1, s.p ≤ T.length → s.n ≤ 100 → inner s = .ok b s1 → GoP T (k - 1) s b s1 ∧ k ≠ 0) (hn : s.n ≤ 100) (h : rdO T k inner s = .ok i s1) : GoI T k s i s1 ∧ s1.n ≤ 100 := by
  unfold rdO at h
  split at h
  · cases h
  · next w s2 e2 =>
    obtain ⟨a1, a2, a3, a4, a5, a6, a7⟩ := rdW_ok e2
    have hlt := (List.getElem?_eq_some_iff.mp a1).1
    split at h
    · next hw =>
      rw [if_neg hw] at a6
      split at h
      · cases h
      · next c s3 e3 =>
        obtain ⟨b1, b2, b3, b4, b5, b6⟩ := rdC_ok e3
        cases h
        have hi : cnI (if w = "step" then Ins.step c else .turn c) = 1 ∧ rpI (if w = "step" then Ins.step c else .turn c) = 0 ∧ CtI (if w = "step" then Ins.step c else .turn c) ∧ dpI (if w = "step" then Ins.step c else .turn c) = 0 := by
          split
          · rw [cnI, rpI, CtI, dpI]
            exact ⟨rfl, rfl, b6, rfl⟩
          · rw [cnI, rpI, CtI, dpI]
            exact ⟨rfl, rfl, b6, rfl⟩
        refine ⟨⟨by omega, by omega, by rw [hi.1]; omega, fun _ => by omega, by rw [hi.2.1]; omega, fun z => by omega, hi.2.2.1, by rw [hi.2.2.2]; exact Nat.zero_le _⟩, by omega⟩
    · next hw =>
      have hw' : w = "repeat" := Decidable.not_not.mp hw
      rw [if_pos hw'] at a6
      split at h
      · cases h
      · next c s3 e3 =>
        obtain ⟨b1, b2, b3, b4, b5, b6⟩ := rdC_ok e3
        split at h
        · cases h
        · next u s4 e4 =>
          obtain ⟨c1, c2, c3, c4⟩ := rdB_ok e4
          split at h
          · cases h
          · next b s5 e5 =>
            cases h
            obtain ⟨G, hk⟩ := hin _ _ _ (by omega) (by omega) e5
            refine ⟨⟨by have := G.p; omega, G.q, by rw [cnI, G.n]; omega, fun _ => G.n1 (by omega), by rw [rpI, G.r]; omega, fun z => G.r1 (by have := (a7 hw').2; omega), by rw [CtI]; exact ⟨b5, by omega, G.g⟩, by rw [dpI]; have := G.d; omega⟩, G.n1 (by omega)⟩
theorem rdI_ok {T : List Str} : ∀ {k : Nat} {s s1 : RS} {i : Ins}, s.n ≤ 100 → rdI T k s = .ok i s1 → GoI T k s i s1 ∧ s1.n ≤ 100
  | 0, s, s1, i, hn, h => by
    unfold rdI at h
    exact rdO_ok (fun _ _ _ _ _ z => by cases z) hn h
  | k + 1, s, s1, i, hn, h => by
    unfold rdI at h
    exact rdO_ok (fun _ _ _ hp hn z => ⟨(rdL_ok (fun _ _ _ _ hn z => rdI_ok hn z) hp hn z).1, by omega⟩) hn h
/-! ### what was written is read -/
theorem at_drop {T : List Str} {p : Nat} {t : Str} {r : List Str} (h : T.drop p = t :: r) : T[p]? = some t ∧ T.drop (p + 1) = r := by
  constructor
  · have := congrArg (fun l => l[0]?) h
    simpa using this
  · rw [← List.drop_drop, h]
    rfl
theorem rdC_back {T r : List Str} {m c : Int} {s : RS} (h : T.drop s.p = ctS c :: r) (hc : c.natAbs ≤ 10 ^ 30) (hm : m ≤ c) : rdC T m s = .ok c ⟨s.p + 1, s.n, s.r⟩ := by
  unfold rdC
  rw [(at_drop h).1]
  dsimp only
  rw [ct_back hc]
  dsimp only
  rw [if_neg (by omega)]
theorem rdW_back {T r : List Str} {k : Nat} {w : Str} {s : RS} (h : T.drop s.p = w :: r) (hw : w = "step" ∨ w = "turn" ∨ w = "repeat") (hn : s.n < 100) (hr : w = "repeat" → k ≠ 0 ∧ s.r < 5) :
    rdW T k s = .ok w ⟨s.p + 1, s.n + 1, if w = "repeat" then s.r + 1 else s.r⟩ := by
  unfold rdW
  rw [(at_drop h).1]
  dsimp only
  rw [if_neg (fun z => by
    rcases z with z | z
    · exact z hw
    · omega), if_neg (fun z => by
    have := hr z.1
    rcases z.2 with y | y <;> omega)]
theorem words_apart : ("step" : Str) ≠ "repeat" ∧ ("turn" : Str) ≠ "repeat" ∧ ("turn" : Str) ≠ "step" ∧ ("step" : Str) ≠ "]" ∧ ("turn" : Str) ≠ "]" ∧ ("repeat" : Str) ≠ "]" := by decide +kernel
theorem tkI_head (i : Ins) : ∃ w r, tkI i = w :: r ∧ (w = "step" ∨ w = "turn" ∨ w = "repeat") := by
  cases i with
  | step c => exact ⟨_, _, by unfold tkI; rfl, .inl rfl⟩
  | turn c => exact ⟨_, _, by unfold tkI; rfl, .inr (.inl rfl)⟩
  | rep n b => exact ⟨_, _, by unfold tkI; rfl, .inr (.inr rfl)⟩
/-- an instruction is read back -/
def BackI (T : List Str) (k : Nat) (one : RS → Rd Ins) (i : Ins) : Prop := ∀ (s : RS) (r : List Str), T.drop s.p = tkI i ++ r → s.n + cnI i ≤ 100 → s.r + rpI i ≤ 5 → one s = .ok i ⟨s.p + (tkI i).length, s.n + cnI i, s.r + rpI i⟩
theorem rdL_back {T : List Str} {k : Nat} {one : RS → Rd Ins} : ∀ {b : List Ins}, (∀ i ∈ b, BackI T k one i) → ∀ {f : Nat} {s : RS} {r : List Str}, T.drop s.p = tkP b ++ (("]" : Str) :: r) → s.n + cnP b ≤ 100 → s.r + rpP b ≤ 5 → b.length < f →
    rdL T one f s = .ok b ⟨s.p + (tkP b).length + 1, s.n + cnP b, s.r + rpP b⟩
  | [], _, f, s, r, hT, hn, hr, hf => by
    obtain ⟨f, rfl⟩ : ∃ g, f = g + 1 := ⟨f - 1, by simp at hf; omega⟩
    rw [tkP_nil, List.nil_append] at hT
    unfold rdL
    rw [(at_drop hT).1]
    dsimp only
    rw [if_pos rfl, tkP_nil, cnP_nil', rpP_nil]
    rfl
  | i :: b, hb, f, s, r, hT, hn, hr, hf => by
    obtain ⟨f, rfl⟩ : ∃ g, f = g + 1 := ⟨f - 1, by simp at hf; omega⟩
    rw [tkP_cons, List.append_assoc] at hT
    rw [cnP_cons] at hn
    rw [rpP_cons] at hr
    obtain ⟨w, q, e, hw⟩ := tkI_head i
    have hT2 := hT
    rw [e, List.cons_append] at hT2
    unfold rdL
    rw [(at_drop hT2).1]
    dsimp only
    rw [if_neg (by
      rcases hw with rfl | rfl | rfl
      · exact words_apart.2.2.2.1
      · exact words_apart.2.2.2.2.1
      · exact words_apart.2.2.2.2.2), hb i List.mem_cons_self s _ hT (by omega) (by omega)]
    dsimp only
    have hT3 : T.drop (s.p + (tkI i).length) = tkP b ++ (("]" : Str) :: r) := by
      rw [← List.drop_drop, hT, List.drop_left]
    rw [rdL_back (fun j hj => hb j (List.mem_cons_of_mem _ hj)) (f := f) (s := ⟨s.p + (tkI i).length, s.n + cnI i, s.r + rpI i⟩) hT3 (by show s.n + cnI i + cnP b ≤ 100; omega) (by show s.r + rpI i + rpP b ≤ 5; omega) (by simp at hf; omega)]
    dsimp only
    rw [tkP_cons, cnP_cons, rpP_cons, List.length_append]
    congr 2 <;> omega
theorem rdO_back {T : List Str} {k : Nat} {inner : RS → Rd (List Ins)} {i : Ins} (hg : CtI i) (hd : dpI i ≤ k)
    (hin : ∀ n b, i = .rep n b → ∀ (s : RS) (r : List Str), T.drop s.p = tkP b ++ (("]" : Str) :: r) → s.n + cnP b ≤ 100 → s.r + rpP b ≤ 5 → inner s = .ok b ⟨s.p + (tkP b).length + 1, s.n + cnP b, s.r + rpP b⟩) : BackI T k (rdO T k inner) i := by
  intro s r hT hn hr
  have flat : ∀ (w : Str) (c : Int), (w = "step" ∨ w = "turn") → c.natAbs ≤ 10 ^ 30 → T.drop s.p = w :: ctS c :: r → s.n < 100 → rdO T k inner s = .ok (if w = "step" then .step c else .turn c) ⟨s.p + 2, s.n + 1, s.r⟩ := by
    intro w c hw hc hT hn
    have nr : w ≠ "repeat" := by
      rcases hw with rfl | rfl
      · exact words_apart.1
      · exact words_apart.2.1
    unfold rdO
    rw [rdW_back hT (by rcases hw with h | h; exact .inl h; exact .inr (.inl h)) hn fun z => absurd z nr]
    dsimp only
    rw [if_pos nr, rdC_back (s := ⟨s.p + 1, s.n + 1, if w = "repeat" then s.r + 1 else s.r⟩) (at_drop hT).2 hc (by omega)]
    dsimp only
    rw [if_neg nr]
  cases i with
  | step c =>
    rw [CtI] at hg
    rw [tkI] at hT
    rw [cnI] at hn
    have := flat "step" c (.inl rfl) hg hT (by omega)
    rw [if_pos rfl] at this
    rw [this, tkI, cnI, rpI]
    rfl
  | turn c =>
    rw [CtI] at hg
    rw [tkI] at hT
    rw [cnI] at hn
    have := flat "turn" c (.inr rfl) hg hT (by omega)
    rw [if_neg words_apart.2.2.1] at this
    rw [this, tkI, cnI, rpI]
    rfl
  | rep n b =>
    rw [CtI] at hg
    rw [dpI] at hd
    rw [tkI] at hT
    rw [cnI] at hn
    rw [rpI] at hr
    have h1 : T.drop s.p = ("repeat" : Str) :: (ctS n :: (("[" : Str) :: (tkP b ++ (("]" : Str) :: r)))) := by
      rw [hT]
      simp
    have h2 := (at_drop h1).2
    have h3 := (at_drop h2).2
    have h4 := (at_drop h3).2
    unfold rdO
    rw [rdW_back h1 (.inr (.inr rfl)) (by omega) fun _ => ⟨by omega, by omega⟩]
    dsimp only
    rw [if_neg (fun z => z rfl), if_pos rfl, rdC_back (s := ⟨s.p + 1, s.n + 1, s.r + 1⟩) h2 (by omega) (by omega)]
    dsimp only
    unfold rdB
    rw [(at_drop h3).1]
    dsimp only
    rw [if_pos rfl]
    dsimp only
    rw [hin n b rfl ⟨s.p + 1 + 1 + 1, s.n + 1, s.r + 1⟩ r h4 (by show s.n + 1 + cnP b ≤ 100; omega) (by show s.r + 1 + rpP b ≤ 5; omega)]
    dsimp only
    rw [tkI, cnI, rpI, List.length_append, List.length_append]
    show Rd.ok _ _ = Rd.ok _ ⟨s.p + (3 + ((tkP b).length + 1)), _, _⟩
    congr 2 <;> omega
theorem rdI_back {T : List Str} : ∀ {k : Nat} {i : Ins}, CtI i → dpI i ≤ k → (tkI i).length ≤ T.length → BackI T k (rdI T k) i
  | 0, i, hg, hd, _ => by
    unfold rdI
    exact rdO_back hg hd fun n b e => by
      subst e
      rw [dpI] at hd
      omega
  | k + 1, i, hg, hd, hl => by
    unfold rdI
    refine rdO_back hg hd fun n b e s r hT hn hr => ?_
    subst e
    rw [dpI] at hd
    rw [CtI] at hg
    rw [tkI, List.length_append, List.length_append] at hl
    have len : ∀ {c : List Ins}, c.length ≤ (tkP c).length := by
      intro c
      induction c with
      | nil => exact Nat.zero_le _
      | cons j c ih =>
        have := List.length_pos_iff.mpr (tkI_ne j)
        rw [tkP_cons, List.length_append, List.length_cons]
        omega
    have sub : ∀ {c : List Ins} {j : Ins}, j ∈ c → (tkI j).length ≤ (tkP c).length := by
      intro c j hj
      induction c with
      | nil => exact absurd hj List.not_mem_nil
      | cons x c ih =>
        rw [tkP_cons, List.length_append]
        rcases List.mem_cons.mp hj with rfl | hj
        · omega
        · have := ih hj
          omega
    have hb := len (c := b)
    exact rdL_back (k := k) (fun j hj => rdI_back (CtP_mem hg.2.2 hj) (by have := dpP_mem hj; omega) (by have := sub hj; omega)) hT hn hr (by omega)
theorem rdP_back {T : List Str} : ∀ {b : List Ins}, CtP b → dpP b ≤ 2 → (∀ i ∈ b, (tkI i).length ≤ T.length) → ∀ {f : Nat} {s : RS}, T.drop s.p = tkP b → s.p ≤ T.length → s.n + cnP b ≤ 100 → s.r + rpP b ≤ 5 → b.length < f →
    rdP T f s = .ok b ⟨s.p + (tkP b).length, s.n + cnP b, s.r + rpP b⟩
  | [], _, _, _, f, s, hT, hp, hn, hr, hf => by
    obtain ⟨f, rfl⟩ : ∃ g, f = g + 1 := ⟨f - 1, by simp at hf; omega⟩
    rw [tkP_nil] at hT
    have := List.drop_eq_nil_iff.mp hT
    unfold rdP
    rw [if_pos (by omega), tkP_nil, cnP_nil', rpP_nil]
    rfl
  | i :: b, hg, hd, hl, f, s, hT, hp, hn, hr, hf => by
    obtain ⟨f, rfl⟩ : ∃ g, f = g + 1 := ⟨f - 1, by simp at hf; omega⟩
    rw [tkP_cons] at hT
    rw [cnP_cons] at hn
    rw [rpP_cons] at hr
    rw [CtP_cons] at hg
    rw [dpP_cons] at hd
    unfold rdP
    rw [if_neg (fun z => by
      have := congrArg List.length hT
      rw [List.length_drop, List.length_append] at this
      have := List.length_pos_iff.mpr (tkI_ne i)
      omega), rdI_back hg.1 (by omega) (hl i List.mem_cons_self) s _ hT (by omega) (by omega)]
    dsimp only
    have hlen := congrArg List.length hT
    rw [List.length_drop, List.length_append] at hlen
    have hT3 : T.drop (s.p + (tkI i).length) = tkP b := by
      rw [← List.drop_drop, hT, List.drop_left]
    rw [rdP_back hg.2 (by omega) (fun j hj => hl j (List.mem_cons_of_mem _ hj)) (f := f) (s := ⟨s.p + (tkI i).length, s.n + cnI i, s.r + rpI i⟩) hT3 (by show s.p + (tkI i).length ≤ T.length; omega) (by show s.n + cnI i + cnP b ≤ 100; omega) (by show s.r + rpI i + rpP b ≤ 5; omega) (by simp at hf; omega)]
    dsimp only
    rw [tkP_cons, cnP_cons, rpP_cons, List.length_append]
    congr 2 <;> omega
/-- the text of a program is read back -/
theorem read_back {b : List Ins} (hg : CtP b) (hd : dpP b ≤ 2) (hn : cnP b ≤ 100) (hr : rpP b ≤ 5) : ∃ s, readT (tkP b) = .ok b s := by
  have sub : ∀ {c : List Ins} {j : Ins}, j ∈ c → (tkI j).length ≤ (tkP c).length := by
    intro c j hj
    induction c with
    | nil => exact absurd hj List.not_mem_nil
    | cons x c ih =>
      rw [tkP_cons, List.length_append]
      rcases List.mem_cons.mp hj with rfl | hj
      · omega
      · have := ih hj
        omega
  have len : ∀ {c : List Ins}, c.length ≤ (tkP c).length := by
    intro c
    induction c with
    | nil => exact Nat.zero_le _
    | cons j c ih =>
      have := List.length_pos_iff.mpr (tkI_ne j)
      rw [tkP_cons, List.length_append, List.length_cons]
      omega
  exact ⟨_, rdP_back hg hd (fun i hi => sub hi) (f := (tkP b).length + 1) (s := ⟨0, 0, 0⟩) rfl (Nat.zero_le _) (by show 0 + cnP b ≤ 100; omega) (by show 0 + rpP b ≤ 5; omega) (by have := len (c := b); omega)⟩
/-! ### what reading leaves in the heap: tuples, and lists that were not there before -/
mutual
inductive NwI (K : PySem.W.Frag) (H0 H : Hp) : V → Ins → Prop
  | step {a : Addr} {c : Int} : SqT K H a [.str "step", .int c] → NwI K H0 H (.ref a) (.step c)
  | turn {a : Addr} {c : Int} : SqT K H a [.str "turn", .int c] → NwI K H0 H (.ref a) (.turn c)
  | rep {a L : Addr} {n : Int} {xs : List V} {b : List Ins} : SqT K H a [.str "repeat", .int n, .ref L] → H0 L = none → H L = some (.lst xs) → NwP K H0 H xs b → NwI K H0 H (.ref a) (.rep n b)
inductive NwP (K : PySem.W.Frag) (H0 H : Hp) : List V → List Ins → Prop
  | nil : NwP K H0 H [] []
  | cons {x : V} {xs : List V} {i : Ins} {b : List Ins} : NwI K H0 H x i → NwP K H0 H xs b → NwP K H0 H (x :: xs) (i :: b)
end
section
variable {K : PySem.W.Frag} {H0 H H' : Hp}
mutual
theorem NwI.stay (ht : ∀ a us, SqT K H a us → SqT K H' a us) (hl : ∀ L xs, H0 L = none → H L = some (.lst xs) → H' L = some (.lst xs)) : ∀ {x : V} {i : Ins}, NwI K H0 H x i → NwI K H0 H' x i
  | _, _, .step h => .step (ht _ _ h)
  | _, _, .turn h => .turn (ht _ _ h)
  | _, _, .rep h n e q => .rep (ht _ _ h) n (hl _ _ n e) (NwP.stay ht hl q)
theorem NwP.stay (ht : ∀ a us, SqT K H a us → SqT K H' a us) (hl : ∀ L xs, H0 L = none → H L = some (.lst xs) → H' L = some (.lst xs)) : ∀ {xs : List V} {b : List Ins}, NwP K H0 H xs b → NwP K H0 H' xs b
  | _, _, .nil => .nil
  | _, _, .cons h t => .cons (NwI.stay ht hl h) (NwP.stay ht hl t)
end
theorem NwP.same (e : Same H H') {xs : List V} {b : List Ins} (h : NwP K H0 H xs b) : NwP K H0 H' xs b := h.stay (fun _ _ g => same_t e g) fun _ _ _ g => e _ _ g
theorem NwI.same (e : Same H H') {x : V} {i : Ins} (h : NwI K H0 H x i) : NwI K H0 H' x i := h.stay (fun _ _ g => same_t e g) fun _ _ _ g => e _ _ g
mutual
theorem NwI.iv : ∀ {x : V} {i : Ins}, NwI K H0 H x i → IV K H x i
  | _, _, .step h => iv_step h
  | _, _, .turn h => iv_turn h
  | _, _, .rep h _ e q => iv_rep h (pv_list (SqL.of e) (NwP.ivs q))
theorem NwP.ivs : ∀ {xs : List V} {b : List Ins}, NwP K H0 H xs b → IVs K H xs b
  | _, _, .nil => .nil
  | _, _, .cons h t => .cons (NwI.iv h) (NwP.ivs t)
end
mutual
theorem NwI.less {G : Hp} (hg : ∀ a, H0 a = none → G a = none) : ∀ {x : V} {i : Ins}, NwI K H0 H x i → NwI K G H x i
  | _, _, .step h => .step h
  | _, _, .turn h => .turn h
  | _, _, .rep h n e q => .rep h (hg _ n) e (NwP.less hg q)
theorem NwP.less {G : Hp} (hg : ∀ a, H0 a = none → G a = none) : ∀ {xs : List V} {b : List Ins}, NwP K H0 H xs b → NwP K G H xs b
  | _, _, .nil => .nil
  | _, _, .cons h t => .cons (NwI.less hg h) (NwP.less hg t)
end
theorem NwP.app : ∀ {xs ys : List V} {b c : List Ins}, NwP K H0 H xs b → NwP K H0 H ys c → NwP K H0 H (xs ++ ys) (b ++ c)
  | _, _, _, _, .nil, h => h
  | _, _, _, _, .cons r q, h => .cons r (NwP.app q h)
theorem NwP.len {xs : List V} {b : List Ins} (h : NwP K H0 H xs b) : xs.length = b.length := h.ivs.len
end
end DR
namespace DR
open PySem PySem.Spec PyProof.Rows L2
/-! ### max of a dict whose keys are ints -/
theorem call_maxKA {X : Cx} (calm : X.calm = true) : CallR X (.builtin "max") (fun xs H Q => ∃ (a : Addr) (kvs : List (Key × V)) (ks : List Int), xs = [.ref a] ∧ H a = some (.dK kvs) ∧ kvs.map (·.1) = ks.map Sum.inl ∧ 0 < ks.length ∧
    ∀ M : Int, M ∈ ks → (∀ x ∈ ks, x ≤ M) → Q (.int M) H) := by
  intro pins s σ H xs us Q I r q
  obtain ⟨a, kvs, ks, rfl, hd, hks, hpos, q⟩ := q
  rw [Vals.ref1 r]
  obtain ⟨z, lo, vs, rel, dd⟩ := dk_of I.hok hd
  obtain ⟨ep, hat⟩ := dd.dictAt
  have keys : vs.map (·.1) = ks.map Sum.inl := by rw [← hks]; exact rel.keys.symm
  have len : vs.length = ks.length := by
    have := congrArg List.length keys
    simpa using this
  have hne : a ≠ s.heap.objs.size := Nat.ne_of_lt hat.lt_size
  have shape : ∀ (i : Nat) (v : Value), (∃ k x, vs[i]? = some (k, x) ∧ (mixKind X.prog X.w).is k v = true) → ∃ t, v = .int (ks.getD i 0) t := fun i v hP => by
    obtain ⟨k, x, h1, h2⟩ := hP
    have hi : i < vs.length := (List.getElem?_eq_some_iff.mp h1).1
    have e1 : (vs.map (·.1))[i]? = some k := by rw [List.getElem?_map, h1]; rfl
    rw [keys, List.getElem?_map, List.getElem?_eq_getElem (by omega)] at e1
    have e2 : k = Sum.inl ks[i] := (Option.some.inj e1).symm
    have h3 : keyIs k v = true := h2
    rw [e2] at h3
    rcases keyIs_shape h3 with ⟨j, t, e3, e4⟩ | ⟨y, t, e3, e4⟩
    · refine ⟨t, ?_⟩
      rw [List.getD_eq_getElem?_getD, List.getElem?_eq_getElem (by omega)]
      injection e3 with e3
      rw [e4, ← e3]
      rfl
    · cases e3
  refine call_max_walk (wpAny_pyIter_dict lo hat ?_)
  refine ⟨_, _, _, _, _, _, _, rfl, Walks.dictKeys (A := X.A.in1) (knd := mixKind X.prog X.w) (I.ok.hd calm) s.heap.objs.size a hne vs ep, ⟨⟨_, Heap.get?_push_size _ rfl, rfl, rfl⟩, hat.push _⟩, ?_, by omega, CmpOf.ints_gt (fun i => ks.getD i 0) (fun i v hP => ?_), fun v h' tk hP hk => ?_⟩
  · intro b hb
    show b < (s.heap.push _).objs.size
    have hs : (s.heap.push { cls := .type "dict_keyiterator", data := .fields #[.ref a, .int 0 0, .int vs.length 0, .int ep 0] }).objs.size = s.heap.objs.size + 1 := by simp [Heap.push]
    rw [hs]
    rcases List.mem_cons.mp hb with e | hb
    · rw [e]
      exact Nat.lt_succ_self _
    · rw [List.mem_singleton.mp hb]
      exact Nat.lt_succ_of_lt hat.lt_size
  · exact shape i v hP
  · obtain ⟨b1, b2⟩ := argBest_gt (fun i => ks.getD i 0) (vs.length - 1)
    obtain ⟨t, rfl⟩ := shape _ v hP
    refine ⟨.int _, H, I.kept fun b o eo => hk b o (fun hmem => ?_) (Heap.get?_push_of_some _ eo), ⟨t, rfl⟩, q _ ?_ fun x hx => ?_⟩
    · rcases List.mem_cons.mp hmem with e1 | hmem
      · exact absurd (e1 ▸ Heap.lt_size eo) (Nat.lt_irrefl _)
      · cases hmem
    · rw [List.getD_eq_getElem?_getD, List.getElem?_eq_getElem (by omega)]
      exact List.getElem_mem _
    · obtain ⟨j, hj, rfl⟩ := List.getElem_of_mem hx
      have := b2 j (by omega)
      rw [List.getD_eq_getElem?_getD, List.getElem?_eq_getElem hj] at this
      exact this
/-! ### an entry of a dict of ints taken out, or written -/
def drp (m : Pol) (e : Int) : Pol := m.filter fun t => decide (t.1 ≠ e)
theorem kv_drop (m : Pol) (e : Int) : dropK (kvOf m) (Sum.inl e : Key) = kvOf (drp m e) := by
  unfold dropK kvOf drp
  rw [List.filter_map]
  congr 1
  refine List.filter_congr fun t _ => ?_
  show decide ((Sum.inl t.1 : Key) ≠ Sum.inl e) = decide (t.1 ≠ e)
  exact decide_eq_decide.mpr ⟨fun h z => h (by rw [z]), fun h z => h (Sum.inl.inj z)⟩
theorem drp_cf (e : Int) : ∀ (m : Pol) (x : Int), cf (drp m e) x = if x = e then 0 else cf m x
  | [], x => by
    show (0 : Int) = _
    split <;> rfl
  | t :: r, x => by
    have ih := drp_cf e r x
    by_cases h : t.1 = e
    · have e1 : drp (t :: r) e = drp r e := List.filter_cons_of_neg (by simp [h])
      rw [e1, ih, cf_cons]
      by_cases q : x = e
      · rw [if_pos q, if_pos q]
      · rw [if_neg q, if_neg q, if_neg (fun z => q (by rw [← z, h])), Int.zero_add]
    · have e1 : drp (t :: r) e = t :: drp r e := List.filter_cons_of_pos (by simp [h])
      rw [e1, cf_cons, ih, cf_cons]
      by_cases q : x = e
      · rw [if_pos q, if_pos q, if_neg (fun z => h (by rw [z, q])), Int.zero_add]
      · rw [if_neg q, if_neg q]
theorem drp_keys {m : Pol} {e x : Int} (h : x ∈ (drp m e).map (·.1)) : x ≠ e ∧ x ∈ m.map (·.1) := by
  obtain ⟨t, ht, rfl⟩ := List.mem_map.mp h
  obtain ⟨h1, h2⟩ := List.mem_filter.mp ht
  exact ⟨of_decide_eq_true h2, List.mem_map_of_mem h1⟩
theorem drp_nodup {m : Pol} (e : Int) (h : (m.map (·.1)).Nodup) : ((drp m e).map (·.1)).Nodup := h.sublist (List.filter_sublist.map _)
theorem drp_len (m : Pol) (e : Int) : (drp m e).length ≤ m.length := List.length_filter_le _ _
def stp (m : Pol) (e v : Int) : Pol := if v = 0 then drp m e else put m e v
theorem stp_cf {m : Pol} (e v : Int) (h : (m.map (·.1)).Nodup) (x : Int) : cf (stp m e v) x = if x = e then v else cf m x := by
  unfold stp
  by_cases z : v = 0
  · rw [if_pos z, drp_cf, z]
  · rw [if_neg z, put_cf _ _ _ _ h]
theorem stp_nodup {m : Pol} (e v : Int) (h : (m.map (·.1)).Nodup) : ((stp m e v).map (·.1)).Nodup := by
  unfold stp
  split
  · exact drp_nodup e h
  · exact put_nodup m e v h
theorem stp_keys {m : Pol} {e v x : Int} (h : x ∈ (stp m e v).map (·.1)) : (x = e ∧ v ≠ 0) ∨ (x ≠ e ∧ x ∈ m.map (·.1)) := by
  unfold stp at h
  by_cases z : v = 0
  · rw [if_pos z] at h
    exact .inr (drp_keys h)
  · rw [if_neg z] at h
    by_cases q : x = e
    · exact .inl ⟨q, z⟩
    · rcases put_keys m e v x h with y | y
      · exact absurd y q
      · exact .inr ⟨q, y⟩
theorem stp_len (m : Pol) (e v : Int) : (stp m e v).length ≤ m.length + 1 := by
  unfold stp
  split
  · exact Nat.le_succ_of_le (drp_len m e)
  · exact put_len m e v
/-- a dict of residues that are not 0 -/
structure Rsd (p : Int) (m : Pol) : Prop where
  nd : (m.map (·.1)).Nodup
  vl : ∀ y ∈ m.map (·.1), 0 < cf m y ∧ cf m y < p
theorem Rsd.stp {p : Int} {m : Pol} (h : Rsd p m) (e : Int) {v : Int} (h0 : 0 ≤ v) (h9 : v < p) : Rsd p (stp m e v) := ⟨stp_nodup e v h.nd, fun y hy => by
  rw [stp_cf e v h.nd]
  rcases stp_keys hy with ⟨a, b⟩ | ⟨a, b⟩
  · rw [if_pos a]
    omega
  · rw [if_neg a]
    exact h.vl y b⟩
theorem Rsd.bd {p : Int} {m : Pol} (h : Rsd p m) (hp : 0 < p) (e : Int) : 0 ≤ cf m e ∧ cf m e < p := by
  by_cases z : e ∈ m.map (·.1)
  · have := h.vl e z
    omega
  · rw [cf_out z]
    omega
/-- what is to be taken away is there, or something stays -/
theorem stp_there {p : Int} {m : Pol} {e w : Int} (h : Rsd p m) (hw : w % p ≠ 0) (hl : (cf m e - w) % p = 0) : e ∈ m.map (·.1) := by
  by_cases z : e ∈ m.map (·.1)
  · exact z
  · rw [cf_out z, Int.zero_sub] at hl
    exact absurd (Int.emod_eq_zero_of_dvd (Int.dvd_neg.mp (Int.dvd_of_emod_eq_zero hl))) hw
theorem iteY {c A B : Prop} [Decidable c] (hc : c) (h : A) : if decide c = true then A else B := by
  rw [if_pos (decide_eq_true hc)]
  exact h
theorem iteZ {c A B : Prop} [Decidable c] (hc : ¬ c) (h : B) : if decide c = true then A else B := by
  rw [if_neg (by rw [decide_eq_false hc]; decide)]
  exact h
/-! ### inverses -/
theorem inv_there : ∀ q ∈ primes, ∀ a ∈ List.range q.toNat, 0 < a → ∃ u ∈ List.range q.toNat, 0 < u ∧ ((u : Int) * (a : Int)) % q = 1 := by decide +kernel
def sp_reciprocal : Sp := fun vs H Q _ => ∃ (p a : Int), vs = [.int p, .int a] ∧ p ∈ primes ∧ 0 < a ∧ a < p ∧ ∀ u : Int, 0 < u → u < p → u * a % p = 1 → Q (.int u) H
def sp_from_zero (K : PySem.W.Frag) : Sp := fun vs H Q _ => ∃ (v : V) (f : Pol), vs = [v] ∧ TPol K H v f ∧ f.length ≤ 1000000 ∧ ∀ u H', Same H H' → TPol K H' u (match f with | [] => [] | t :: _ => moved (-t.1) f) → Q u H'
end DR
namespace DR
open PySem PySem.Spec PyProof.Rows L2
/-! ### a dict of the terms of a polynomial that pass a test -/
theorem dcP {K : PySem.W.Frag} {σ : L2.St} {H : Hp} {vs : List Nat} {n i j : Nat} {tt : TT} {tk tv : TE} {Q : VK} {a : Addr} {xs : List V} {f : Pol} (b : Int × Int → Bool) (hv : σ[n]? = some (some (.ref a))) (hs : SqT K H a xs) (hP : Prs K H xs f) (hl : f.length ≤ 1000000) (hn : (f.map (·.1)).Nodup)
    (hw : ∀ x y, wipe (((wipe σ vs).set i (some x)).set j (some y)) vs = wipe σ vs)
    (ht : ∀ t ∈ f, ∀ H2, ∀ S : Bool → Hp → Prop, S (b t) H2 → tt (((wipe σ vs).set i (some (.int t.1))).set j (some (.int t.2))) H2 S)
    (hk : ∀ t ∈ f, ∀ H2, ∀ S : VK, S (.int t.1) H2 → tk (((wipe σ vs).set i (some (.int t.1))).set j (some (.int t.2))) H2 S)
    (he : ∀ t ∈ f, ∀ H2, ∀ S : VK, S (.int t.2) H2 → tv (((wipe σ vs).set i (some (.int t.1))).set j (some (.int t.2))) H2 S)
    (k : ∀ D H2, H D = none → Same H H2 → H2 D = some (.dK (kvOf (f.filter b))) → Q (.ref D) H2) : tDc (iTup K (tVar n)) (gTup K 2 (gCons (gName i) (gCons (gName j) gNil))) tt tk tv vs σ H Q := by
  refine ⟨_, hv, a, rfl, ⟨_, hs⟩, fun D nD => dc_tup (K := K) (a := a) (xs := xs) (fun m H2 => Same H H2 ∧ H2 D = some (.dK (kvOf ((f.take m).filter b)))) ⟨same_new nD, upd_same⟩ (fun m H2 _ g => same_t g.1 hs) ?_ ?_⟩
  · rintro m x H2 hm ⟨s2, hD⟩
    obtain ⟨t, ht1, c, rfl, hc⟩ := hP.get hm
    have hm0 := List.mem_of_getElem? ht1
    refine ⟨c, _, rfl, same_t s2 hc, rfl, _, _, rfl, _, _, rfl, rfl, hw _ _, ?_⟩
    refine ht t hm0 H2 _ ?_
    have et : (f.take (m + 1)).filter b = (f.take m).filter b ++ [t].filter b := by rw [take_snoc ht1, List.filter_append]
    cases hb : b t with
    | true =>
      rw [if_pos rfl]
      refine hk t hm0 H2 _ (he t hm0 H2 _ ?_)
      have hnd : (((f.take m).filter b).map (·.1)).Nodup := hn.sublist ((List.filter_sublist.trans (List.take_sublist _ _)).map _)
      have hout : t.1 ∉ ((f.take m).filter b).map (·.1) := fun z => by
        have h1 : (((f.take (m + 1))).map (·.1)).Nodup := hn.sublist ((List.take_sublist _ _).map _)
        rw [take_snoc ht1, List.map_append, List.nodup_append] at h1
        obtain ⟨u, hu, e⟩ := List.mem_map.mp z
        exact h1.2.2 u.1 (List.mem_map_of_mem (List.mem_filter.mp hu).1) t.1 (by simp) e
      refine ⟨_, Sum.inl t.1, rfl, hD, ?_, fun x o ex => ?_, ?_⟩
      · have h1 := List.length_filter_le b (f.take m)
        rw [List.length_take] at h1
        show (((f.take m).filter b).map _).length < sizeLine
        rw [List.length_map, sizeLine_eq]
        omega
      · rw [upd_ne (ne_of_none ex nD)]
        exact s2 _ _ ex
      · rw [upd_same, kv_put hnd, put_new hout, et, List.filter_cons_of_pos hb]
        rfl
    | false =>
      rw [if_neg (by decide)]
      refine ⟨s2, ?_⟩
      rw [hD, et, List.filter_cons_of_neg (by rw [hb]; decide), List.filter_nil, List.append_nil]
  · rintro H2 ⟨s2, hD⟩
    rw [hP.len, List.take_length] at hD
    exact k D H2 nD s2 hD
/-! ### name = {k: v for ..} -/
section
variable {X : Cx}
/-- what a piece of a comprehension is, wherever the comprehension's own frame may lie -/
abbrev InBlk (X : Cx) (scope : Scope) (T : Cx → Prop) : Prop := ∀ (now : Shared) (G : Hp) (cell : Addr) (names : List (Str × Addr)) (frame : List Addr), T (X.blk now G scope (compEnvC scope names cell X.env) frame)
theorem ps_setDc {i : Nat} {y : Str} {py : Pos} {kx vx tg iter : Expr} {ifs : List Expr} {scope : Scope} {own : List (Str × Nat)} {pos spos : Pos} {wi : TI} {g : TG} {tt : TT} {tk tv : TE} (hc : X.calm = true) (hN : X.N.Nodup) (hy : X.N[i]? = some y) (hyl : X.env.scope.names.lookup y = some .local)
    (hsw : swapsWith (.DictComp kx vx [⟨tg, iter, ifs, 0⟩] scope pos) (some (.Name y py)) spos.line X.env = pure true) (hi : PI X tg iter wi) (ok : BlkOk X.N X.env.scope scope own)
    (hg : InBlk X scope fun Y => PG Y tg g) (ht : InBlk X scope fun Y => PTs Y ifs tt) (hk : InBlk X scope fun Y => PE Y kx tk) (he : InBlk X scope fun Y => PE Y vx tv) (hs : ∀ x, foldedSetIterable iter X.env x = pure x := by intro _; rfl) :
    PS X (.Assign [.Name y py] (.DictComp kx vx [⟨tg, iter, ifs, 0⟩] scope pos) spos) (tAsg (tDc wi g tt tk tv (own.map (·.2))) (gName i)) := by
  constructor
  intro pins now σ G D I told
  have told : tDc wi g tt tk tv (own.map (·.2)) σ G (fun x H1 => gName i x σ H1 D.nx) := told
  rw [exec_Assign_Name_used _ _ _ _ hsw]
  refine wpAny_bind (wpAny_standAt (wpAny_bind ?_))
  show wpAny _ X.A (do let _ ← comprehension (.DictComp kx vx [⟨tg, iter, ifs, 0⟩] scope pos) scope X.env (firstIterPos [⟨tg, iter, ifs, 0⟩] pos) newDict false (eval iter X.env) (some (assign (.Name y py) X.env))) _ _ now
  refine wpAny_bind (thn (dc_core (Qf := fun _ s' => SP X pins D .next s') hc hN I hi ok hg ht hk he hs told fun L C mid m G' J found near apart => ?_) fun _ s' over => wpAny_pure (wpAny_pure over))
  obtain ⟨n0, n1, n2, n3, n4, n5⟩ := apart
  change wpAny _ _ (assign (.Name y py) X.env (.ref L)) _ _ mid
  apply wpAny_assign_Name
  apply store_ok2 (v := V.ref L) J hN hy (.inl hyl) rfl ?_ (.inr hyl)
  rintro s2 J2 ⟨cell, but, whose⟩
  have other : C ≠ cell := whose.elim (fun z => z ▸ n1) fun z q => n4 y cell z q.symm
  refine ⟨m, near.sameBut but other, fun s3 but3 => ⟨_, G', J2.turned (t' := s2.toks) (fun b u far old => ?_) n0 n1 n3 n4 n5, found⟩⟩
  exact (but3.2 b far).trans old
theorem sw_trueD {kx vx : Expr} {gs : List Comprehension} {scope : Scope} {pos py : Pos} {y : Str} {l : Nat} {env : Env} (fn : env.scope.kind = .function) (hy : env.scope.names.lookup y = some .local) (line : (py.line == pos.line) = true)
    (free : (scope.names.any fun (n, k) => n == y && (k == .local || k == .cell)) = false) : swapsWith (.DictComp kx vx gs scope pos) (some (.Name y py)) l env = pure true := by
  have here : env.kindOf y = some .local := hy
  have block : env.blockKind = .function := by simp [Env.blockKind, fn]
  simp only [swapsWith, block, here, free, Expr.pos, line]
  rfl
end
/-! ### long division -/
theorem filter_cf (b : Int → Bool) : ∀ (f : Pol) (e : Int), cf (f.filter fun t => b t.1) e = if b e = true then cf f e else 0
  | [], e => by
    show (0 : Int) = _
    split <;> rfl
  | t :: r, e => by
    have ih := filter_cf b r e
    by_cases h : b t.1 = true
    · rw [List.filter_cons_of_pos (by exact h), cf_cons, cf_cons, ih]
      by_cases q : t.1 = e
      · rw [if_pos q]
        rw [q] at h
        rw [if_pos h, if_pos h]
      · rw [if_neg q]
        split <;> omega
    · rw [List.filter_cons_of_neg (by exact h), ih, cf_cons]
      by_cases q : b e = true
      · rw [if_pos q, if_pos q, if_neg (fun z => h (by rw [z]; exact q)), Int.zero_add]
      · rw [if_neg q, if_neg q]
/-- the two dicts and the quotient while dividing -/
structure DvI (p deg : Int) (f g A R Q : Pol) (m : Nat) : Prop where
  ra : Rsd p A
  rr : Rsd p R
  nq : (Q.map (·.1)).Nodup
  ka : ∀ y ∈ A.map (·.1), deg ≤ y ∧ y < deg + m
  kr : ∀ y ∈ R.map (·.1), y < deg
  kq : ∀ y ∈ Q.map (·.1), (m : Int) ≤ y
  eq : ∀ e, (cf A e + cf R e + cf (prods Q g) e - cf f e) % p = 0
/-- within a turn -/
structure DvJ (p deg d c : Int) (A0 R0 A R : Pol) (h : Pol) : Prop where
  ra : Rsd p A
  rr : Rsd p R
  ka : ∀ y ∈ A.map (·.1), deg ≤ y ∧ y ≤ deg + d
  kr : ∀ y ∈ R.map (·.1), y < deg
  eq : ∀ e, (cf A e + cf R e - (cf A0 e + cf R0 e) + cf (times (d, c) h) e) % p = 0
theorem Nf.rsd {p : Int} {f : Pol} {F : Int → Int} (h : Nf p f F) (b : Int → Bool) : Rsd p (f.filter fun t => b t.1) := by
  have hs : (f.filter fun t => b t.1).Sublist f := List.filter_sublist
  have ha : (f.filter fun t => b t.1).Pairwise fun x y => x.1 < y.1 := h.asc.sublist hs
  refine ⟨?_, fun y hy => ?_⟩
  · rw [List.Nodup, List.pairwise_map]
    exact ha.imp fun z => by omega
  · obtain ⟨t, ht, rfl⟩ := List.mem_map.mp hy
    rw [cf_mem ha t ht]
    have := h.rng t (hs.mem ht)
    omega
theorem DvI.start {p deg : Int} {f g : Pol} {F : Int → Int} {N : Nat} (h : Nf p f F) (hN : ∀ t ∈ f, t.1 < deg + N) : DvI p deg f g (f.filter fun t => decide (t.1 ≥ deg)) (f.filter fun t => decide (t.1 < deg)) [] N := by
  refine ⟨h.rsd fun x => decide (x ≥ deg), h.rsd fun x => decide (x < deg), List.nodup_nil, fun y hy => ?_, fun y hy => ?_, fun y hy => absurd hy List.not_mem_nil, fun e => ?_⟩
  · obtain ⟨t, ht, rfl⟩ := List.mem_map.mp hy
    obtain ⟨h1, h2⟩ := List.mem_filter.mp ht
    exact ⟨of_decide_eq_true h2, hN t h1⟩
  · obtain ⟨t, ht, rfl⟩ := List.mem_map.mp hy
    exact of_decide_eq_true (List.mem_filter.mp ht).2
  · rw [filter_cf (fun x => decide (x ≥ deg)), filter_cf (fun x => decide (x < deg))]
    have e0 : cf (prods [] g) e = 0 := rfl
    rw [e0]
    by_cases z : e ≥ deg
    · rw [if_pos (decide_eq_true z), if_neg (by rw [decide_eq_false (by omega)]; decide)]
      rw [show cf f e + 0 + 0 - cf f e = 0 by omega]
      exact Int.zero_emod _
    · rw [if_neg (by rw [decide_eq_false z]; decide), if_pos (decide_eq_true (by omega))]
      rw [show 0 + cf f e + 0 - cf f e = 0 by omega]
      exact Int.zero_emod _
theorem DvJ.start {p deg d c : Int} {f g A R Q : Pol} {m : Nat} (h : DvI p deg f g A R Q m) (htop : ∀ y ∈ A.map (·.1), y ≤ deg + d) : DvJ p deg d c A R A R [] := by
  refine ⟨h.ra, h.rr, fun y hy => ⟨(h.ka y hy).1, htop y hy⟩, h.kr, fun e => ?_⟩
  have e0 : cf (times (d, c) []) e = 0 := rfl
  rw [e0, show cf A e + cf R e - (cf A e + cf R e) + 0 = 0 by omega]
  exact Int.zero_emod _
theorem times_snoc (t u : Int × Int) (h : Pol) : times t (h ++ [u]) = times t h ++ [(t.1 + u.1, t.2 * u.2)] := by
  unfold times
  rw [List.map_append]
  rfl
theorem z_add {p a b : Int} (h : a % p = 0) (k : b % p = 0) : (a + b) % p = 0 := Int.emod_eq_zero_of_dvd (Int.dvd_add (Int.dvd_of_emod_eq_zero h) (Int.dvd_of_emod_eq_zero k))
theorem z_sub {p a b : Int} (h : a % p = 0) (k : b % p = 0) : (a - b) % p = 0 := Int.emod_eq_zero_of_dvd (Int.dvd_sub (Int.dvd_of_emod_eq_zero h) (Int.dvd_of_emod_eq_zero k))
theorem left_eq {p a c : Int} : ((a - c) % p - a + c) % p = 0 := by
  have h1 := Int.emod_add_mul_ediv (a - c) p
  rw [show (a - c) % p - a + c = p * (-((a - c) / p)) by rw [Int.mul_neg]; omega]
  exact Int.mul_emod_right _ _
theorem DvJ.high {p deg d c : Int} {A0 R0 A R h : Pol} {u : Int × Int} (j : DvJ p deg d c A0 R0 A R h) (hp : 0 < p) (h1 : deg ≤ u.1 + d) (h2 : u.1 ≤ deg) :
    DvJ p deg d c A0 R0 (stp A (u.1 + d) ((cf A (u.1 + d) - c * u.2) % p)) R (h ++ [u]) := by
  refine ⟨j.ra.stp _ (Int.emod_nonneg _ (by omega)) (Int.emod_lt_of_pos _ hp), j.rr, fun y hy => ?_, j.kr, fun e => ?_⟩
  · rcases stp_keys hy with ⟨z, _⟩ | ⟨_, z⟩
    · omega
    · exact j.ka y z
  · rw [stp_cf _ _ j.ra.nd, times_snoc, cf_append, cf_cons, cf_nil]
    have he := j.eq e
    by_cases z : e = u.1 + d
    · rw [if_pos z, if_pos (by show d + u.1 = e; omega), ← z]
      have := z_add he (left_eq (p := p) (a := cf A e) (c := c * u.2))
      refine Eq.trans (congrArg (· % p) ?_) this
      show _ + (cf (times (d, c) h) e + (c * u.2 + 0)) = _
      omega
    · rw [if_neg z, if_neg (by show ¬ (d + u.1 = e); omega)]
      refine Eq.trans (congrArg (· % p) ?_) he
      omega
theorem DvJ.low {p deg d c : Int} {A0 R0 A R h : Pol} {u : Int × Int} (j : DvJ p deg d c A0 R0 A R h) (hp : 0 < p) (h1 : u.1 + d < deg) :
    DvJ p deg d c A0 R0 A (stp R (u.1 + d) ((cf R (u.1 + d) - c * u.2) % p)) (h ++ [u]) := by
  refine ⟨j.ra, j.rr.stp _ (Int.emod_nonneg _ (by omega)) (Int.emod_lt_of_pos _ hp), j.ka, fun y hy => ?_, fun e => ?_⟩
  · rcases stp_keys hy with ⟨z, _⟩ | ⟨_, z⟩
    · omega
    · exact j.kr y z
  · rw [stp_cf _ _ j.rr.nd, times_snoc, cf_append, cf_cons, cf_nil]
    have he := j.eq e
    by_cases z : e = u.1 + d
    · rw [if_pos z, if_pos (by show d + u.1 = e; omega), ← z]
      have := z_add he (left_eq (p := p) (a := cf R e) (c := c * u.2))
      refine Eq.trans (congrArg (· % p) ?_) this
      show _ + (cf (times (d, c) h) e + (c * u.2 + 0)) = _
      omega
    · rw [if_neg z, if_neg (by show ¬ (d + u.1 = e); omega)]
      refine Eq.trans (congrArg (· % p) ?_) he
      omega
theorem DvI.next {p deg d c un lead : Int} {f g0 A R Q A' R' : Pol} {m : Nat} (h : DvI p deg f (g0 ++ [(deg, lead)]) A R Q m) (hp : 0 < p) (d0 : 0 ≤ d) (hd : d < m) (hg : ∀ t ∈ g0, t.1 < deg)
    (hu : un * lead % p = 1 % p) (hc : c = cf A (deg + d) * un % p) (j : DvJ p deg d c A R A' R' (g0 ++ [(deg, lead)])) :
    DvI p deg f (g0 ++ [(deg, lead)]) A' R' (put Q d c) d.toNat := by
  have hnew : d ∉ Q.map (·.1) := fun z => by
    have := h.kq d z
    omega
  refine ⟨j.ra, j.rr, put_nodup _ _ _ h.nq, fun y hy => ?_, j.kr, fun y hy => ?_, fun e => ?_⟩
  · have hk := j.ka y hy
    refine ⟨hk.1, ?_⟩
    rw [Int.toNat_of_nonneg d0]
    by_cases z : y = deg + d
    · exfalso
      have e1 := j.eq y
      have r1 : cf R y = 0 := cf_out fun q => by have := h.kr y q; omega
      have r2 : cf R' y = 0 := cf_out fun q => by have := j.kr y q; omega
      have g1 : cf (times (d, c) (g0 ++ [(deg, lead)])) y = c * lead := by
        rw [cf_times, cf_append]
        have q0 : cf g0 (y - (d, c).1) = 0 := cf_none _ _ fun t ht => by
          have := hg t ht
          show t.1 ≠ y - d
          omega
        rw [q0, cf_cons, if_pos (by show deg = y - d; omega), cf_nil]
        show c * (0 + (lead + 0)) = _
        rw [Int.zero_add, Int.add_zero]
      rw [r1, r2, g1] at e1
      have e2 : (c * lead - cf A y) % p = 0 := by
        rw [hc, ← z]
        have : (cf A y * un % p * lead - cf A y) % p = 0 := by
          rw [Int.sub_emod, mul_emod_l, Int.mul_assoc, Int.mul_emod, hu, ← Int.mul_emod, Int.mul_one, Int.sub_self, Int.zero_emod]
        exact this
      have e3 := z_sub e1 e2
      rw [show cf A' y + 0 - (cf A y + 0) + c * lead - (c * lead - cf A y) = cf A' y by omega] at e3
      have hv := j.ra.vl y hy
      rw [Int.emod_eq_of_lt (by omega) hv.2] at e3
      omega
    · omega
  · rw [Int.toNat_of_nonneg d0]
    rcases put_keys _ _ _ _ hy with z | z
    · omega
    · have := h.kq y z
      omega
  · rw [put_new hnew, prods_snoc, cf_append]
    have e1 := h.eq e
    have e2 := j.eq e
    have e3 := z_add e1 e2
    refine Eq.trans (congrArg (· % p) ?_) e3
    omega
theorem none_in {H H' : Hp} {d : Addr} (s : Same H H') (h : H' d = none) : H d = none := by
  cases q : H d with
  | none => rfl
  | some o => rw [s _ _ q] at h; cases h
theorem TPol.same {K : PySem.W.Frag} {H H' : Hp} {v : V} {f : Pol} (s : Same H H') (h : TPol K H v f) : TPol K H' v f := by
  obtain ⟨a, xs, rfl, h1, h2⟩ := h
  exact ⟨a, xs, rfl, same_t s h1, Prs.tp (Same.tp s) h2⟩
theorem at_neg1 {xs : List V} {n : Nat} {v : V} (hl : xs.length = n + 1) (h : xs[n]? = some v) : atI xs (-1) = some v := by
  have e : xs = xs.take n ++ [v] := by
    rw [← take_snoc h, ← hl, List.take_length]
  rw [e]
  exact atI_last _ _
theorem there_some {m : Pol} {e : Int} (hn : (m.map (·.1)).Nodup) (h : e ∈ m.map (·.1)) : (valV (kvOf m) (Sum.inl e : Key)).isSome = true := by
  rw [kv_val m e hn, if_pos h]
  rfl
theorem kvOf_nil {m : Pol} (h : (!(kvOf m).isEmpty) = false) : m = [] := by
  cases m with
  | nil => rfl
  | cons _ _ => cases h
theorem kvOf_pos {m : Pol} (h : (!(kvOf m).isEmpty) = true) : 0 < (m.map (·.1)).length := by
  cases m with
  | nil => cases h
  | cons _ _ => exact Nat.succ_pos _
def sp_divide_with_rest (K : PySem.W.Frag) : Sp := fun vs H Q _ => ∃ (p : Int) (v1 v2 : V) (f g : Pol) (deg : Int) (N : Nat), vs = [.int p, v1, v2] ∧ p ∈ primes ∧ TPol K H v1 f ∧ TPol K H v2 g ∧ Nf p f (cf f) ∧ Nf p g (cf g) ∧ (∃ g0 lead, g = g0 ++ [(deg, lead)]) ∧ (∀ t ∈ f, t.1 < deg + N) ∧ f.length + (N + 1) * g.length ≤ 1000000 ∧
  ∀ (a : Addr) (x y : V) (H' : Hp) (q r : Pol), Same H H' → SqT K H' a [x, y] → TPol K H' x q → TPol K H' y r → Nf p q (cf q) → Nf p r (cf r) → (∀ t ∈ q, 0 ≤ t.1 ∧ t.1 < N) → (∀ t ∈ r, t.1 < deg) → q.length ≤ N → r.length ≤ f.length + N * g.length → (∀ e, (cf r e + cf (prods q g) e - cf f e) % p = 0) → Q (.ref a) H'
end DR
namespace DR
open PySem PySem.Spec PyProof.Rows L2
/-! ### products that are others -/
theorem eq_of_sub {a b p : Int} (h : (a - b) % p = 0) : a % p = b % p := Int.emod_eq_emod_iff_emod_sub_eq_zero.mpr h
theorem sub_of_eq {a b p : Int} (h : a % p = b % p) : (a - b) % p = 0 := Int.emod_eq_emod_iff_emod_sub_eq_zero.mp h
theorem prime_cut {p : Int} (hp : p ∈ primes) {a x : Int} (h0 : 0 < a) (h9 : a < p) (h : a * x % p = 0) : x % p = 0 := by
  have hr := prime_rng p hp
  by_cases z : x % p = 0
  · exact z
  · have m0 := Int.emod_nonneg x (show p ≠ 0 by omega)
    have m1 := Int.emod_lt_of_pos x (show 0 < p by omega)
    refine absurd ?_ (prime_nz hp h0 h9 (show 0 < x % p by omega) m1)
    rw [Int.mul_comm, mul_emod_l, Int.mul_comm]
    exact h
theorem conv_gone {p : Int} {D : Int → Int} {E : Int} : ∀ (g : Pol), (∀ t ∈ g, D (E - t.1) % p = 0) → conv g D E % p = 0
  | [], _ => Int.zero_emod _
  | t :: r, h => by
    show (t.2 * D (E - t.1) + conv r D E) % p = 0
    refine z_add ?_ (conv_gone r fun u hu => h u (List.mem_cons_of_mem _ hu))
    rw [Int.mul_emod, h t List.mem_cons_self, Int.mul_zero, Int.zero_emod]
/-- what has no top has nothing -/
theorem top_zero {p : Int} (hp : p ∈ primes) {g0 : Pol} {deg lead : Int} (ng : Nf p (g0 ++ [(deg, lead)]) (cf (g0 ++ [(deg, lead)]))) {D : Int → Int} {B lo : Int} (hB : ∀ e, B ≤ e → D e % p = 0) (hz : ∀ e, lo ≤ e → conv (g0 ++ [(deg, lead)]) D (e + deg) % p = 0) : ∀ e, lo ≤ e → D e % p = 0 := by
  have glow : ∀ t ∈ g0, t.1 < deg := fun t ht => (List.pairwise_append.mp ng.asc).2.2 t ht (deg, lead) (by simp)
  have gl := ng.rng (deg, lead) (by simp)
  have key : ∀ n : Nat, ∀ e, lo ≤ e → B - n ≤ e → D e % p = 0 := by
    intro n
    induction n with
    | zero => exact fun e _ h => hB e (by omega)
    | succ n ih =>
      intro e h1 h2
      by_cases z : B - n ≤ e
      · exact ih e h1 z
      · have hc := hz e h1
        rw [conv_append] at hc
        have h0 := conv_gone (p := p) (D := D) (E := e + deg) g0 fun t ht => by
          have := glow t ht
          exact ih _ (by omega) (by omega)
        have hc2 := z_sub hc h0
        rw [show conv g0 D (e + deg) + conv [(deg, lead)] D (e + deg) - conv g0 D (e + deg) = conv [(deg, lead)] D (e + deg) by omega] at hc2
        have e3 : conv [(deg, lead)] D (e + deg) = lead * D e := by
          show lead * D (e + deg - deg) + 0 = _
          rw [show e + deg - deg = e by omega, Int.add_zero]
        rw [e3] at hc2
        exact prime_cut hp gl.1 gl.2 hc2
  intro e he
  exact key (B - e).toNat e he (by omega)
theorem pol_top (f : Pol) : ∃ B : Int, ∀ e, B ≤ e → cf f e = 0 := by
  induction f with
  | nil => exact ⟨0, fun _ _ => rfl⟩
  | cons t r ih =>
    obtain ⟨B, hB⟩ := ih
    refine ⟨max B (t.1 + 1), fun e he => ?_⟩
    rw [cf_cons, if_neg (by omega), hB e (by omega)]
    rfl
theorem ne_snoc {g : Pol} (h : g ≠ []) : ∃ g0 deg lead, g = g0 ++ [(deg, lead)] := ⟨g.dropLast, (g.getLast h).1, (g.getLast h).2, (List.dropLast_concat_getLast h).symm⟩
theorem conv_sub (G G' : Int → Int) (f : Pol) (e : Int) : conv f (fun x => G x - G' x) e = conv f G e - conv f G' e := by
  have h := conv_add G (fun x => -1 * G' x) f e
  rw [conv_smul] at h
  rw [show conv f G e - conv f G' e = conv f G e + -1 * conv f G' e by omega, ← h]
  exact conv_congr (fun x => by omega) f e
/-- cancelling -/
theorem conv_cancel {p : Int} (hp : p ∈ primes) {g q f : Pol} (ng : Nf p g (cf g)) (hg : g ≠ []) (h : ∀ e, conv q (cf g) e % p = conv f (cf g) e % p) (e : Int) : cf q e % p = cf f e % p := by
  obtain ⟨g0, deg, lead, rfl⟩ := ne_snoc hg
  obtain ⟨B1, h1⟩ := pol_top q
  obtain ⟨B2, h2⟩ := pol_top f
  refine eq_of_sub (top_zero hp ng (D := fun x => cf q x - cf f x) (B := max B1 B2) (lo := e) (fun x hx => ?_) (fun x _ => ?_) e (Int.le_refl _))
  · show (cf q x - cf f x) % p = 0
    rw [h1 x (by omega), h2 x (by omega)]
    exact Int.zero_emod _
  · rw [conv_sub, conv_comm q, conv_comm f]
    exact sub_of_eq (h _)
/-- g divides f -/
def Dv (p : Int) (g f : Pol) : Prop := ∃ h, Nf p h (cf h) ∧ ∀ e, conv h (cf g) e % p = cf f e % p
theorem conv_mv (n : Int) (q g : Pol) (e : Int) : conv q (cf (moved n g)) e = conv q (cf g) (e - n) := by
  rw [conv_comm, conv_moved, conv_comm]
theorem Nf.mv {p : Int} {g : Pol} (h : Nf p g (cf g)) (n : Int) : Nf p (DR.moved n g) (cf (DR.moved n g)) := (h.moved n).to fun e => by rw [cf_moved]
theorem Dv.mv {p : Int} {g f : Pol} (n m : Int) (h : Dv p g f) : Dv p (moved n g) (moved m f) := by
  obtain ⟨q, nq, hq⟩ := h
  refine ⟨moved (m - n) q, nq.mv _, fun e => ?_⟩
  rw [conv_moved, conv_mv, cf_moved, hq, show e - (m - n) - n = e - m by omega]
theorem moved_back (n m : Int) (f : Pol) : moved n (moved m f) = moved (m + n) f := by
  unfold moved
  rw [List.map_map]
  refine List.map_congr_left fun t _ => ?_
  show (t.1 + m + n, t.2) = (t.1 + (m + n), t.2)
  rw [Int.add_assoc]
theorem moved_zero (f : Pol) : moved 0 f = f := by
  unfold moved
  conv => rhs; rw [← List.map_id f]
  refine List.map_congr_left fun t _ => ?_
  show (t.1 + 0, t.2) = t
  rw [Int.add_zero]
/-- there is no other quotient, and no rest beside it -/
theorem dv_rest {p : Int} (hp : p ∈ primes) {f g q r : Pol} {deg : Int} (nf : Nf p f (cf f)) (ng : Nf p g (cf g)) (nq : Nf p q (cf q)) (nr : Nf p r (cf r)) (hf : f ≠ []) (hg : ∃ g0 lead, g = g0 ++ [(deg, lead)]) (hg0 : ∃ l g1, g = (0, l) :: g1) (hf0 : ∀ t ∈ f, 0 ≤ t.1)
    (hq0 : ∀ t ∈ q, 0 ≤ t.1) (hr : ∀ t ∈ r, t.1 < deg) (h : ∀ e, (cf r e + cf (prods q g) e - cf f e) % p = 0) (hd : Dv p g f) : r = [] := by
  obtain ⟨w, nw, hw⟩ := hd
  have hw0 : ∀ t ∈ w, 0 ≤ t.1 := by
    cases w with
    | nil => exact fun t ht => absurd ht List.not_mem_nil
    | cons t ws =>
      intro u hu
      have hle := asc_le nw.asc hu
      obtain ⟨l, g1, rfl⟩ := hg0
      have h1 := conv_least nw.asc ng.asc
      have h2 := hw (t.1 + 0)
      have e1 : conv (t :: ws) (cf ((0, l) :: g1)) (t.1 + 0) = t.2 * l := h1
      rw [e1] at h2
      have h3 := nw.rng t List.mem_cons_self
      have h4 := ng.rng (0, l) List.mem_cons_self
      have h5 := prime_nz hp h3.1 h3.2 h4.1 h4.2
      rw [Int.add_zero] at h2
      by_cases z : cf f t.1 = 0
      · rw [z, Int.zero_emod] at h2
        exact absurd h2 h5
      · obtain ⟨s, hs, e⟩ := cf_ne z
        have := hf0 s hs
        omega
  obtain ⟨g0, lead, rfl⟩ := hg
  obtain ⟨B1, h1⟩ := pol_top q
  obtain ⟨B2, h2⟩ := pol_top w
  have hr' : ∀ e, cf r e % p = (conv (g0 ++ [(deg, lead)]) (fun x => cf w x - cf q x) e) % p := fun e => by
    rw [conv_sub]
    refine eq_of_sub ?_
    have a1 := h e
    rw [cf_prods, conv_comm] at a1
    have a2 := sub_of_eq (hw e)
    rw [conv_comm] at a2
    refine Eq.trans (congrArg (· % p) ?_) (z_sub a1 a2)
    omega
  have key := top_zero hp ng (D := fun x => cf w x - cf q x) (B := max B1 B2) (lo := 0) (fun x hx => by
    show (cf w x - cf q x) % p = 0
    rw [h1 x (by omega), h2 x (by omega)]
    exact Int.zero_emod _) (fun x hx => by
    rw [← hr', cf_none r _ fun t ht => by have := hr t ht; omega]
    exact Int.zero_emod _)
  have all : ∀ e, (cf w e - cf q e) % p = 0 := fun e => by
    by_cases z : 0 ≤ e
    · exact key e z
    · rw [cf_none w e fun t ht => by have := hw0 t ht; omega, cf_none q e fun t ht => by have := hq0 t ht; omega]
      exact Int.zero_emod _
  refine nr.uniq (F' := fun _ => 0) (g' := []) ⟨List.Pairwise.nil, fun t ht => absurd ht List.not_mem_nil, fun e => (Int.zero_emod _).symm⟩ fun e => ?_
  rw [hr' e, conv_gone _ fun t _ => all _]
  exact (Int.zero_emod _).symm
def sp_divide (K : PySem.W.Frag) : Sp := fun vs H Q _ => ∃ (p : Int) (v1 v2 : V) (f g : Pol) (N : Nat), vs = [.int p, v1, v2] ∧ p ∈ primes ∧ TPol K H v1 f ∧ TPol K H v2 g ∧ Nf p f (cf f) ∧ Nf p g (cf g) ∧ g ≠ [] ∧ (∀ t ∈ f, ∀ s ∈ f, t.1 - s.1 < N) ∧ f.length + (N + 1) * g.length ≤ 1000000 ∧
  ∀ u H', Same H H' → ((u = .non ∧ ¬ Dv p g f) ∨ ∃ q, TPol K H' u q ∧ Nf p q (cf q) ∧ (∀ e, conv q (cf g) e % p = cf f e % p) ∧ q.length ≤ N) → Q u H'
end DR
namespace DR
open PySem PySem.Spec PyProof.Rows L2
theorem pol_bot (f : Pol) : ∃ B : Int, ∀ e, e ≤ B → cf f e = 0 := by
  induction f with
  | nil => exact ⟨0, fun _ _ => rfl⟩
  | cons t r ih =>
    obtain ⟨B, hB⟩ := ih
    refine ⟨min B (t.1 - 1), fun e he => ?_⟩
    rw [cf_cons, if_neg (by omega), hB e (by omega)]
    rfl
/-- every sum has its normal form -/
theorem nf_ex {p : Int} (hp : 0 < p) (m : Pol) : ∃ g, Nf p g (cf m) := by
  obtain ⟨B, hB⟩ := pol_top m
  obtain ⟨L, hL⟩ := pol_bot m
  have asc : ((List.range (B - L).toNat).map fun i : Nat => L + (i : Int)).Pairwise (· < ·) := by
    rw [List.pairwise_map]
    exact List.pairwise_lt_range.imp fun h => by omega
  refine ⟨_, kept_nf hp (ys := (List.range (B - L).toNat).map fun i : Nat => L + (i : Int)) (asc.imp fun h => by omega) (asc.imp fun h => by omega) fun e he => ?_⟩
  by_cases h1 : e ≤ L
  · rw [hL e h1]; exact Int.zero_emod _
  · by_cases h2 : B ≤ e
    · rw [hB e h2]; exact Int.zero_emod _
    · refine absurd (List.mem_map.mpr ⟨(e - L).toNat, List.mem_range.mpr (by omega), ?_⟩) he
      show L + ((e - L).toNat : Int) = e
      omega
theorem prods_bd {p : Int} {f g r : Pol} (nr : Nf p r (cf (prods f g))) {A B : Nat} (hf : ∀ t ∈ f, t.1.natAbs ≤ A) (hg : ∀ t ∈ g, t.1.natAbs ≤ B) : ∀ t ∈ r, t.1.natAbs ≤ A + B := nr.subP (R := fun x => x.natAbs ≤ A + B) fun e he => by
  rw [cf_none _ e fun t ht z => ?_]
  · exact Int.zero_emod _
  · obtain ⟨a, ha, b, hb, q⟩ := prods_mem ht
    have h1 := hf a ha
    have h2 := hg b hb
    rw [q] at z
    have z : a.1 + b.1 = e := z
    omega
theorem wid {f : Pol} {A : Nat} (h : ∀ t ∈ f, t.1.natAbs ≤ A) {N : Nat} (hN : 2 * A < N) : ∀ t ∈ f, ∀ s ∈ f, t.1 - s.1 < (N : Int) := fun t ht s hs => by
  have := h t ht
  have := h s hs
  omega
theorem dv_mono {p : Int} (hp : p ∈ primes) (f : Pol) (place : Int) {c : Int} (h0 : 0 < c) (h9 : c < p) : Dv p [(place, c)] f := by
  have hpr := prime_rng p hp
  obtain ⟨u, hu, hu0, hua⟩ := inv_there p hp c.toNat (List.mem_range.mpr (by omega)) (by omega)
  rw [Int.toNat_of_nonneg (by omega)] at hua
  obtain ⟨h, nh⟩ := nf_ex (p := p) (by omega) ((moved (-place) f).map fun t => (t.1, t.2 * (u : Int)))
  refine ⟨h, nh.self, fun e => ?_⟩
  rw [conv_comm]
  show (c * cf h (e - place) + 0) % p = _
  rw [nh.cof, cf_scale, cf_moved, Int.add_zero, Int.mul_comm, mul_emod_l, show e - place - -place = e by omega, Int.mul_assoc, Int.mul_emod, hua]
  have : (1 : Int) % p = 1 := Int.emod_eq_of_lt (by decide) (by omega)
  rw [← this, ← Int.mul_emod, Int.mul_one]
/-- what the quotient by one term gives -/
theorem mono_back {p : Int} {q f r : Pol} {place c : Int} (h : ∀ e, conv q (cf [(place, c)]) e % p = cf f e % p) (nf : Nf p f (cf f)) (nr : Nf p r (fun e => cf (moved place q) e * c)) : r = f := nr.uniq nf fun e => by
  have h1 := h e
  rw [conv_comm] at h1
  rw [← h1, cf_moved]
  show _ = (c * cf q (e - place) + 0) % p
  rw [Int.add_zero, Int.mul_comm]
theorem gap_conv {p : Int} {n : Int} {h g : Pol} (ng : Nf p g (fun e => cf [(0, 1)] e - cf [(n, 1)] e)) (e : Int) : conv h (cf g) e % p = (cf h e - cf h (e - n)) % p := by
  rw [conv_mod (G' := fun x => cf [(0, 1)] x - cf [(n, 1)] x) (fun x => by rw [ng.cof, Int.emod_emod]) h e, conv_sub, conv_comm [(0, 1)], conv_comm [(n, 1)]]
  show (1 * cf h (e - 0) + 0 - (1 * cf h (e - n) + 0)) % p = _
  rw [Int.sub_zero, Int.one_mul, Int.one_mul, Int.add_zero, Int.add_zero]
theorem gap_ne {p n : Int} {g : Pol} (hp : 2 ≤ p) (hn : n ≠ 0) (ng : Nf p g (fun e => cf [(0, 1)] e - cf [(n, 1)] e)) : g ≠ [] := fun z => by
  have h := ng.cof 0
  have e1 : cf [(0, 1)] (0 : Int) = 1 := rfl
  have e2 : cf [(n, 1)] (0 : Int) = 0 := cf_none _ _ fun t ht => by rw [List.mem_singleton.mp ht]; exact hn
  rw [z, e1, e2] at h
  rw [show (1 : Int) - 0 = 1 from rfl, Int.emod_eq_of_lt (by decide) (by omega)] at h
  cases h
theorem gap_bd {p n : Int} {g : Pol} {A : Nat} (hn : n.natAbs ≤ A) (ng : Nf p g (fun e => cf [(0, 1)] e - cf [(n, 1)] e)) : ∀ t ∈ g, t.1.natAbs ≤ A := ng.subP (R := fun x => x.natAbs ≤ A) fun e he => by
  rw [cf_none [(0, 1)] e fun t ht z => ?_, cf_none [(n, 1)] e fun t ht z => ?_]
  · exact Int.zero_emod _
  · rw [List.mem_singleton.mp ht] at z
    have z : n = e := z
    omega
  · rw [List.mem_singleton.mp ht] at z
    have z : (0 : Int) = e := z
    omega
/-- 1 - t ** n divides no 1 - t ** w where n does not divide w -/
theorem gap_no {p w n : Int} {f g : Pol} (hp : 2 ≤ p) (hn : 0 < n) (hw : w % n ≠ 0) (nf : Nf p f (fun e => cf [(0, 1)] e - cf [(w, 1)] e)) (ng : Nf p g (fun e => cf [(0, 1)] e - cf [(n, 1)] e)) : ¬ Dv p g f := by
  rintro ⟨h, nh, hh⟩
  have step : ∀ k : Int, (cf h (k * n) - cf h ((k - 1) * n)) % p = (if k = 0 then 1 else 0) % p := fun k => by
    have h1 := hh (k * n)
    rw [gap_conv ng, nf.cof, Int.emod_emod] at h1
    rw [show k * n - n = (k - 1) * n by rw [Int.sub_mul, Int.one_mul]] at h1
    rw [h1]
    have e2 : cf [(w, 1)] (k * n) = 0 := cf_none _ _ fun t ht z => by
      rw [List.mem_singleton.mp ht] at z
      have z : w = k * n := z
      exact hw (by rw [z]; exact Int.mul_emod_left _ _)
    rw [e2, Int.sub_zero]
    congr 1
    show (if (0 : Int) = k * n then 1 else 0) + 0 = _
    rw [Int.add_zero]
    by_cases z : k = 0
    · rw [if_pos z, if_pos (by rw [z, Int.zero_mul])]
    · rw [if_neg z, if_neg (fun y => ?_)]
      rcases Int.mul_eq_zero.mp y.symm with a | a
      · exact z a
      · omega
  obtain ⟨B, hB⟩ := pol_top h
  obtain ⟨L, hL⟩ := pol_bot h
  have up : ∀ j : Nat, cf h ((j : Int) * n) % p = cf h 0 % p := by
    intro j
    induction j with
    | zero => rw [show ((0 : Nat) : Int) * n = 0 by rw [Int.natCast_zero, Int.zero_mul]]
    | succ j ih =>
      have := step ((j + 1 : Nat) : Int)
      rw [if_neg (by omega), show ((j + 1 : Nat) : Int) - 1 = (j : Int) by omega, Int.zero_emod] at this
      rw [← ih]
      exact eq_of_sub this
  have dn : ∀ j : Nat, cf h ((-1 - (j : Int)) * n) % p = cf h ((-1) * n) % p := by
    intro j
    induction j with
    | zero => rfl
    | succ j ih =>
      have := step (-1 - (j : Int))
      rw [if_neg (by omega), show -1 - (j : Int) - 1 = -1 - ((j + 1 : Nat) : Int) by omega, Int.zero_emod] at this
      rw [← ih]
      exact (eq_of_sub this).symm
  have big : ∀ x : Int, x ≤ (x.toNat : Int) * n := fun x => by
    have h1 : (x.toNat : Int) * 1 ≤ (x.toNat : Int) * n := Int.mul_le_mul_of_nonneg_left (by omega) (by omega)
    rw [Int.mul_one] at h1
    omega
  have z1 : cf h 0 % p = 0 := by
    rw [← up B.toNat, hB _ (big B)]
    exact Int.zero_emod _
  have z2 : cf h ((-1) * n) % p = 0 := by
    rw [← dn (-L).toNat, hL _ ?_]
    · exact Int.zero_emod _
    · have := big (-L)
      rw [Int.sub_mul]
      omega
  have s0 := step 0
  rw [if_pos rfl, Int.zero_mul, show (0 : Int) - 1 = -1 from rfl, z_sub z1 z2, Int.emod_eq_of_lt (by decide) (by omega)] at s0
  cases s0
theorem iteW {c A B : Prop} [Decidable c] (hc : ¬ c) (h : A) : if (!decide c) = true then A else B := by
  rw [if_pos (by rw [decide_eq_false hc]; rfl)]
  exact h
/-! ### a word of one's own where a statement, a value or a test ends -/
section
variable {X : Cx}
def tCut (t : TS) : TS := fun D σ H => ∃ M : L2.St → Hp → Prop, t { D with nx := M } σ H ∧ ∀ σ' H', M σ' H' → D.nx σ' H'
theorem ps_cut {st : Stmt} {t : TS} (h : PS X st t) : PS X st (tCut t) := by
  refine ⟨fun pins s σ H D I q => ?_⟩
  obtain ⟨M, h1, h2⟩ := q
  refine thn (h.run pins s σ H _ I h1) fun f s' r => ?_
  cases f with
  | next =>
    obtain ⟨σ', H', I', m⟩ := r
    exact ⟨σ', H', I', h2 σ' H' m⟩
  | brk => exact r
  | cont => exact r
  | ret u => exact r
def tCutE (t : TE) : TE := fun σ H Q => ∃ M : VK, t σ H M ∧ ∀ v H', M v H' → Q v H'
theorem pe_cut {e : Expr} {t : TE} (h : PE X e t) : PE X e (tCutE t) := by
  refine ⟨fun pins s σ H Q I q => ?_⟩
  obtain ⟨M, h1, h2⟩ := q
  exact thn (h.run pins s σ H _ I h1) fun u s' ⟨v, H', I', rv, m⟩ => ⟨v, H', I', rv, h2 v H' m⟩
def tCutT (t : TT) : TT := fun σ H Q => ∃ M : Bool → Hp → Prop, t σ H M ∧ ∀ b H', M b H' → Q b H'
theorem pt_cut {e : Expr} {t : TT} (h : PT X e t) : PT X e (tCutT t) := by
  refine ⟨fun pins s σ H Q I q => ?_⟩
  obtain ⟨M, h1, h2⟩ := q
  exact thn (h.run pins s σ H _ I h1) fun b s' ⟨H', I', m⟩ => ⟨H', I', h2 b H' m⟩
end
end DR
namespace L2
open PySem PySem.Spec PyProof.Rows
section
variable {X : Cx} {pos : Pos}
/-- X(), X an own exception class without own __init__ -/
theorem pmk_own0 {C : Addr} {bmB : List Value} {B newId initId : String} {x : Str} {p : Pos} (F : ExcBaseFacts B newId initId bmB) (q : PySem.W.excIn X.K C bmB newId = true) (gC : X.mg x = some (.ref C))
    (kC : PySem.W.keepIn X.K (.ref C) = true) (r : Raises X (.ref C)) (hg : Gl X x) (hdb : (x == ("__debug__" : Str)) = false := by decide) :
    PMk X (.Call (.Name x p) [] [] pos) (fun σ H Q => Q (.ref C) none H) := by
  intro pins s σ H Q I h
  refine wpAny_Call_Name_kw (ld_glob I hg gC ?_ hdb)
  refine PySem.W.callWith_K0 I.kIn kC ?_
  show wpAny _ _ (call (.ref C) []) _ _ _
  obtain ⟨bm, N, nm, qn, bs, hdct, sn, sub, ab, col, dd, k0, k1, k2, k3, k5, mN, hC, hN, hni, T⟩ := exc_obj I.kIn q
  refine wpAny_call_exc_subT F T hC hN hni (fun h' e hm => ?_) (Nat.zero_le _)
  exact mk_of I hm r h (I.hok.gone hm.new)
end
end L2
namespace DR
open PySem PySem.Spec PyProof.Rows L2
/-- an own exception class over ArithmeticError, without own __init__ -/
structure OwnX (K : PySem.W.Frag) (mg : Str → Option Value) (x : Str) (C : Addr) : Prop where
  mg : mg x = some (.ref C)
  ex : PySem.W.excIn K C [.type "ArithmeticError", .type "Exception", .type "BaseException", .type "object"] "ArithmeticError.__new__" = true
  kp : PySem.W.keepIn K (.ref C) = true
  sub : PySem.W.subIn K (.ref C) (.type "BaseException") = some true
  ty : PySem.W.typeIn K (.ref C) = some (.type "type")
/-- raise X() -/
theorem ps_raise0 {X : Cx} {W : WX} {C : Addr} {x : Str} {p pos pos' : Pos} (Z : OwnX X.K X.mg x C) (hc : X.calm = true) (tk : Takes X W) (hg : Gl X x) (hdb : (x == ("__debug__" : Str)) = false := by decide) :
    PS X (.Raise (some (.Call (.Name x p) [] [] pos)) none pos') (fun _ σ H => W (.ref C) none σ H) :=
  ps_raise hc tk (pmk_own0 PySem.F.excBase_ArithmeticError Z.ex Z.mg Z.kp (raises_own Z.sub Z.ty) hg hdb)
/-! ### a def that may raise, by its name -/
structure CalE (P : Program) (w : World) (K : PySem.W.Frag) (mg : Str → Option Value) (base : Heap) (k : Nat) (x : Str) (sp : Sp) : Prop where
  ex : ∃ (f : Addr) (fd : FuncData) (ps : List Str), FnOk P w K mg base (L2.CX P w) k f fd ps sp ∧ mg x = some (.ref f) ∧ PySem.W.keepIn K (.ref f) = true ∧ Binds K fd ps []
theorem cal_ofE {P : Program} {w : World} {K : PySem.W.Frag} {mg : Str → Option Value} {base : Heap} {k : Nat} {x : Str} {st : Stmt} {ps : List Str} {sp : Sp} (D : Df K mg x st)
    (b : ∀ (kV doc pm : Value) (an : Option Addr) (cdv ct : Value) (us : List Value), us.length = ps.length → bindArgs (PySem.W.fnOf x x (defArgs st) (defBody st) (defScope st) .none kV doc pm an cdv ct) ⟨us, []⟩ = pure (ps.zip us))
    (ok : ∀ f fd, Fun K x x st f fd → FnOk P w K mg base (L2.CX P w) k f fd ps sp) : CalE P w K mg base k x sp := by
  obtain ⟨f, fd, F, hm, kp⟩ := D.ex
  exact ⟨f, fd, ps, ok f fd F, hm, kp, F.binds b⟩
/-- its call, where nothing is raised -/
theorem pe_cE0 {X : Cx} {k j : Nat} {x : Str} {sp : Sp} {p pos : Pos} {e : Expr} {es : List Expr} {t : TA} (c : CalE X.prog X.w X.K X.mg X.base k x sp) (hr : Room j X.A) (hk : k ≤ j) (hg : Gl X x) (ha : PA X (e :: es) t)
    (h1 : (x == ("__debug__" : Str)) = false := by decide) (h2 : starEach (e :: es) X.env = (false, eval e X.env) :: starEach es X.env := by rfl) (h3 : (backTo pos (starEach es X.env)).any (·.1) = false := by rfl) :
    PE X (.Call (.Name x p) (e :: es) [] pos) (tCall sp [] E0 t) := by
  obtain ⟨f, fd, ps, F, hm, kp, b⟩ := c.ex
  exact pe_call F (hr.mono hk) hg hm kp b .nil passL ha h1 h2 h3
/-- its call, where what it raises is taken -/
theorem pe_cE {X : Cx} {W : WX} {k j : Nat} {x : Str} {sp : Sp} {p pos : Pos} {e : Expr} {es : List Expr} {t : TA} (c : CalE X.prog X.w X.K X.mg X.base k x sp) (tk : Takes X W) (hr : Room j X.A) (hk : k ≤ j) (hg : Gl X x) (ha : PA X (e :: es) t)
    (h1 : (x == ("__debug__" : Str)) = false := by decide) (h2 : starEach (e :: es) X.env = (false, eval e X.env) :: starEach es X.env := by rfl) (h3 : (backTo pos (starEach es X.env)).any (·.1) = false := by rfl) :
    PE X (.Call (.Name x p) (e :: es) [] pos) (tCallS sp (WE W) t) := by
  obtain ⟨f, fd, ps, F, hm, kp, b⟩ := c.ex
  exact pe_callS F (hr.mono hk) hg hm kp b (fun σ => passAt tk σ) ha h1 h2 h3
/-- divide: by nothing it raises -/
def sp_divideX (K : PySem.W.Frag) (C : Addr) : Sp := fun vs H Q E => (∃ (p : Int) (v1 v2 : V), vs = [.int p, v1, v2] ∧ TPol K H v2 [] ∧ E (.ref C) none H) ∨ sp_divide K vs H Q E
/-- is it refused? -/
def sp__law_is_refused (K : PySem.W.Frag) : Sp := fun vs H Q _ => ∃ (p : Int) (v : V), vs = [.int p, v] ∧ ∀ H', Same H H' → Q (.bl true) H'
theorem pss_g {X : Cx} {b : List Stmt} {p : Prop} {t : TS} (h : p → PSs X b t) : PSs X b (fun D σ H => p ∧ t D σ H) := ⟨fun pins s σ H D I hh => (h hh.1).run pins s σ H D I hh.2⟩
/-- what isinstance says of a DivisionByZero -/
structure IsX (K : PySem.W.Frag) (mg : Str → Option Value) (C CT : Addr) : Prop where
  bt : mg "ArithmeticError" = none
  tl : mg "TooLong" = some (.ref CT)
  k1 : PySem.W.kitOne K (.ref C) (.type "ArithmeticError") = some true
  k2 : PySem.W.kitOne K (.ref C) (.ref CT) = some false
  ec : ExcC K C
  em : PySem.W.exmOne K (.ref C) (.ref C) = some true
end DR
namespace DR
open PySem PySem.Spec PyProof.Rows L2
/-- u is made of f and g -/
def In (p : Int) (f g u : Pol) : Prop := ∃ a b : Pol, ∀ e, (conv a (cf f) e + conv b (cf g) e) % p = cf u e % p
section
variable {p : Int} {f g u v w : Pol}
theorem conv_one (F : Int → Int) (n e : Int) : conv [(n, 1)] F e = F (e - n) := by
  show 1 * F (e - n) + 0 = _
  rw [Int.one_mul, Int.add_zero]
theorem conv_nil (F : Int → Int) (e : Int) : conv [] F e = 0 := rfl
theorem conv_scl (k : Int) (G : Int → Int) : ∀ (f : Pol) (e : Int), conv (f.map fun t => (t.1, t.2 * k)) G e = conv f G e * k
  | [], e => by show (0 : Int) = 0 * k; rw [Int.zero_mul]
  | t :: r, e => by
    show t.2 * k * G (e - t.1) + conv _ G e = (t.2 * G (e - t.1) + conv r G e) * k
    rw [conv_scl k G r e, Int.add_mul, Int.mul_right_comm]
theorem In.to (h : In p f g u) (k : ∀ e, cf u e % p = cf v e % p) : In p f g v := by
  obtain ⟨a, b, h⟩ := h
  exact ⟨a, b, fun e => (h e).trans (k e)⟩
theorem In.mvl (n : Int) : In p f g (moved n f) := ⟨[(n, 1)], [], fun e => by rw [conv_one, conv_nil, Int.add_zero, cf_moved]⟩
theorem In.l : In p f g f := ⟨[(0, 1)], [], fun e => by rw [conv_one, conv_nil, Int.add_zero, Int.sub_zero]⟩
theorem In.r : In p f g g := ⟨[], [(0, 1)], fun e => by rw [conv_one, conv_nil, Int.zero_add, Int.sub_zero]⟩
theorem In.z : In p f g [] := ⟨[], [], fun e => rfl⟩
theorem conv_two (a a1 b1 : Pol) (h : ∀ e, (conv a1 (cf f) e + conv b1 (cf g) e) % p = cf u e % p) (e : Int) : conv a (cf u) e % p = (conv (prods a a1) (cf f) e + conv (prods a b1) (cf g) e) % p := by
  rw [← conv_mod h a e, conv_add, conv_assoc, conv_assoc]
theorem In.trans (h1 : In p f g u) (h2 : In p f g v) (h3 : In p u v w) : In p f g w := by
  obtain ⟨a1, b1, h1⟩ := h1
  obtain ⟨a2, b2, h2⟩ := h2
  obtain ⟨a, b, h3⟩ := h3
  refine ⟨prods a a1 ++ prods b a2, prods a b1 ++ prods b b2, fun e => ?_⟩
  rw [← h3 e, Int.add_emod (conv a (cf u) e), conv_two a a1 b1 h1 e, conv_two b a2 b2 h2 e, ← Int.add_emod, conv_append, conv_append]
  congr 1
  omega
theorem In.mul (h : In p f g u) (c : Pol) {r : Pol} (hr : ∀ e, cf r e % p = conv c (cf u) e % p) : In p f g r := by
  obtain ⟨a1, b1, h⟩ := h
  exact ⟨prods c a1, prods c b1, fun e => by rw [hr, conv_two c a1 b1 h e]⟩
theorem In.add (h : In p f g u) (h2 : In p f g v) {r : Pol} (hr : ∀ e, cf r e % p = (cf u e + cf v e) % p) : In p f g r := by
  obtain ⟨a1, b1, h⟩ := h
  obtain ⟨a2, b2, h2⟩ := h2
  refine ⟨a1 ++ a2, b1 ++ b2, fun e => ?_⟩
  rw [hr, Int.add_emod (cf u e), ← h, ← h2, ← Int.add_emod, conv_append, conv_append]
  congr 1
  omega
theorem In.sub (h : In p f g u) (h2 : In p f g v) {r : Pol} (hr : ∀ e, cf r e % p = (cf u e - cf v e) % p) : In p f g r := by
  obtain ⟨a1, b1, h⟩ := h
  obtain ⟨a2, b2, h2⟩ := h2
  refine ⟨a1 ++ a2.map fun t => (t.1, t.2 * -1), b1 ++ b2.map fun t => (t.1, t.2 * -1), fun e => ?_⟩
  rw [hr, Int.sub_emod (cf u e), ← h, ← h2, ← Int.sub_emod, conv_append, conv_append, conv_scl, conv_scl]
  congr 1
  omega
theorem In.mv (h : In p f g u) (n : Int) : In p f g (moved n u) := h.mul [(n, 1)] fun e => by rw [conv_one, cf_moved]
theorem In.scl (h : In p f g u) (c : Int) {r : Pol} (hr : ∀ e, cf r e % p = cf u e * c % p) : In p f g r := h.mul [(0, c)] fun e => by
  rw [hr]
  show _ = (c * cf u (e - 0) + 0) % p
  rw [Int.sub_zero, Int.add_zero, Int.mul_comm]
theorem In.swap (h : In p f g u) : In p g f u := by
  obtain ⟨a, b, h⟩ := h
  exact ⟨b, a, fun e => by rw [Int.add_comm]; exact h e⟩
theorem In.dv (hp : 0 < p) (h : In p f [] u) : Dv p f u := by
  obtain ⟨a, b, h⟩ := h
  obtain ⟨a', na⟩ := nf_ex hp a
  refine ⟨a', na.self, fun e => ?_⟩
  rw [← h e, conv_fst (f' := a) (fun x => by rw [na.cof, Int.emod_emod]) f e]
  have : conv b (cf []) e = 0 := (conv_congr (G' := fun _ => 0) (fun _ => rfl) b e).trans (conv_zero b e)
  rw [this, Int.add_zero]
theorem Dv.in (h : Dv p f u) : In p f g u := by
  obtain ⟨q, _, h⟩ := h
  exact ⟨q, [], fun e => by rw [conv_nil, Int.add_zero]; exact h e⟩
theorem In.one (h : In p f [] u) : In p f g u := by
  obtain ⟨a, b, h⟩ := h
  refine ⟨a, [], fun e => ?_⟩
  rw [← h e, conv_nil]
  have : conv b (cf []) e = 0 := (conv_congr (G' := fun _ => 0) (fun _ => rfl) b e).trans (conv_zero b e)
  rw [this]
end
/-- zero, or from exponent 0 and with last coefficient 1 -/
structure Gd (p : Int) (d : Pol) : Prop where
  nf : Nf p d (cf d)
  nz : d = [] ∨ ((∃ l d1, d = (0, l) :: d1) ∧ ∃ d0 deg, d = d0 ++ [(deg, 1)])
theorem nf_zero {p : Int} {d : Pol} {F : Int → Int} (h : Nf p d F) (z : ∀ e, F e % p = 0) : d = [] := h.uniq (F' := fun _ => 0) (g' := []) ⟨List.Pairwise.nil, fun t ht => absurd ht List.not_mem_nil, fun e => (Int.zero_emod _).symm⟩ fun e => by rw [z]; exact (Int.zero_emod _).symm
theorem asc_last {f0 : Pol} {t : Int × Int} (h : (f0 ++ [t]).Pairwise fun x y => x.1 < y.1) : ∀ s ∈ f0 ++ [t], s.1 ≤ t.1 := fun s hs => by
  rcases List.mem_append.mp hs with h1 | h1
  · exact Int.le_of_lt ((List.pairwise_append.mp h).2.2 s h1 t (by simp))
  · rw [List.mem_singleton.mp h1]; exact Int.le_refl _
/-- the greatest exponents' term of a product -/
theorem conv_great {p : Int} {r s : Pol} {t u : Int × Int} (h : (r ++ [t]).Pairwise fun x y => x.1 < y.1) (h' : (s ++ [u]).Pairwise fun x y => x.1 < y.1) : conv (r ++ [t]) (cf (s ++ [u])) (t.1 + u.1) % p = t.2 * u.2 % p := by
  rw [conv_append]
  have h0 := conv_gone (p := p) (D := cf (s ++ [u])) (E := t.1 + u.1) r fun x hx => by
    have l1 := (List.pairwise_append.mp h).2.2 x hx t (by simp)
    rw [cf_none _ _ fun y hy => by have := asc_last h' y hy; omega]
    exact Int.zero_emod _
  rw [Int.add_emod, h0, Int.zero_add, Int.emod_emod]
  show (t.2 * cf (s ++ [u]) (t.1 + u.1 - t.1) + 0) % p = _
  rw [show t.1 + u.1 - t.1 = u.1 by omega, Int.add_zero, cf_mem h' u (by simp)]
theorem dv_ends {p : Int} (hp : p ∈ primes) {x d d' : Pol} (nx : Nf p x (cf x)) (nd : Nf p d (cf d)) (nd' : Nf p d' (cf d')) (hd : d ≠ []) (h : ∀ e, conv x (cf d') e % p = cf d e % p) {l l' : Int} {d1 d1' : Pol} (a : d = (0, l) :: d1) (a' : d' = (0, l') :: d1') {d0 d0' : Pol} {deg deg' c c' : Int} (b : d = d0 ++ [(deg, c)]) (b' : d' = d0' ++ [(deg', c')]) :
    ∃ x0 m k, x = x0 ++ [(m, k)] ∧ (∀ t ∈ x, 0 ≤ t.1) ∧ m + deg' ≤ deg := by
  have hx : x ≠ [] := fun z => by
    refine hd (nf_zero nd fun e => ?_)
    rw [← h e, z]
    exact Int.zero_emod _
  obtain ⟨x0, m, k, hx0⟩ := ne_snoc hx
  refine ⟨x0, m, k, hx0, fun s hs => ?_, ?_⟩
  · obtain ⟨t, xs, rfl⟩ := List.exists_cons_of_ne_nil hx
    have hle := asc_le nx.asc hs
    have h1 := h (t.1 + 0)
    rw [a'] at h1 nd'
    have e1 : conv (t :: xs) (cf ((0, l') :: d1')) (t.1 + 0) = t.2 * l' := conv_least nx.asc nd'.asc
    rw [e1, Int.add_zero] at h1
    have h3 := nx.rng t List.mem_cons_self
    have h4 := nd'.rng (0, l') List.mem_cons_self
    have h5 := prime_nz hp h3.1 h3.2 h4.1 h4.2
    by_cases z : cf d t.1 = 0
    · rw [z, Int.zero_emod] at h1
      exact absurd h1 h5
    · obtain ⟨y, hy, e⟩ := cf_ne z
      rw [a] at hy nd
      have := asc_le nd.asc hy
      have : (0 : Int) ≤ y.1 := this
      omega
  · subst hx0
    have h1 := h (m + deg')
    rw [b'] at h1 nd'
    have e1 : conv (x0 ++ [(m, k)]) (cf (d0' ++ [(deg', c')])) (m + deg') % p = k * c' % p := conv_great nx.asc nd'.asc
    rw [e1] at h1
    have h3 := nx.rng (m, k) (by simp)
    have h4 := nd'.rng (deg', c') (by simp)
    have h5 := prime_nz hp h3.1 h3.2 h4.1 h4.2
    by_cases z : cf d (m + deg') = 0
    · rw [z, Int.zero_emod] at h1
      exact absurd h1 h5
    · obtain ⟨y, hy, e⟩ := cf_ne z
      rw [b] at hy nd
      have := asc_last nd.asc y hy
      have : y.1 ≤ deg := this
      omega
theorem gd_uniq {p : Int} (hp : p ∈ primes) {d d' : Pol} (g : Gd p d) (g' : Gd p d') (h : Dv p d d') (h' : Dv p d' d) : d = d' := by
  have hpr := prime_rng p hp
  obtain ⟨x, nx, hx⟩ := h'
  obtain ⟨y, ny, hy⟩ := h
  rcases g.nz with z | ⟨⟨l, d1, a⟩, d0, deg, b⟩
  · subst z
    refine (nf_zero g'.nf fun e => ?_).symm
    rw [← hy e]
    have : conv y (cf []) e = 0 := (conv_congr (G' := fun _ => 0) (fun _ => rfl) y e).trans (conv_zero y e)
    rw [this]
    exact Int.zero_emod _
  rcases g'.nz with z | ⟨⟨l', d1', a'⟩, d0', deg', b'⟩
  · subst z
    refine nf_zero g.nf fun e => ?_
    rw [← hx e]
    have : conv x (cf []) e = 0 := (conv_congr (G' := fun _ => 0) (fun _ => rfl) x e).trans (conv_zero x e)
    rw [this]
    exact Int.zero_emod _
  have hd : d ≠ [] := fun z => by rw [z] at a; cases a
  have hd' : d' ≠ [] := fun z => by rw [z] at a'; cases a'
  obtain ⟨x0, m, k, ex, x1, x2⟩ := dv_ends hp nx g.nf g'.nf hd hx a a' b b'
  obtain ⟨y0, m', k', ey, y1, y2⟩ := dv_ends hp ny g'.nf g.nf hd' hy a' a b' b
  have m0 := x1 (m, k) (by rw [ex]; simp)
  have m0' := y1 (m', k') (by rw [ey]; simp)
  have m0 : 0 ≤ m := m0
  have m0' : 0 ≤ m' := m0'
  have hm : m = 0 := by omega
  have hx0 : x0 = [] := by
    cases x0 with
    | nil => rfl
    | cons t xs =>
      have h1 := x1 t (by rw [ex]; simp)
      have h2 := nx.asc
      rw [ex] at h2
      have h3 := (List.pairwise_append.mp h2).2.2 t List.mem_cons_self (m, k) (by simp)
      have h3 : t.1 < m := h3
      omega
  rw [hx0, hm] at ex
  have ex : x = [(0, k)] := ex
  have hk := nx.rng (0, k) (by rw [ex]; simp)
  have hdeg : deg = deg' := by omega
  have hk1 : k = 1 := by
    have h1 := hx deg
    rw [ex] at h1
    have e1 : conv [(0, k)] (cf d') deg = k * 1 := by
      show k * cf d' (deg - 0) + 0 = _
      have hn := g'.nf.asc
      rw [b'] at hn
      rw [Int.sub_zero, Int.add_zero, hdeg, b', cf_mem hn (deg', 1) (by simp)]
    have e2 : cf d deg = 1 := by
      have hn := g.nf.asc
      rw [b] at hn
      rw [b]
      exact cf_mem hn (deg, 1) (by simp)
    rw [e1, e2, Int.mul_one, Int.emod_eq_of_lt (by omega) hk.2, Int.emod_eq_of_lt (by decide) (by omega)] at h1
    exact h1
  refine g.nf.uniq g'.nf fun e => ?_
  rw [← hx e, ex, hk1, conv_one, Int.sub_zero]
/-- d is the greatest common divisor of f and g -/
structure IsG (p : Int) (f g d : Pol) : Prop where
  gd : Gd p d
  md : In p f g d
  l : In p d [] f
  r : In p d [] g
theorem IsG.uniq {p : Int} (hp : p ∈ primes) {f g f' g' d d' : Pol} (a : IsG p f g d) (b : IsG p f' g' d') (h1 : In p f g f') (h2 : In p f g g') (h3 : In p f' g' f) (h4 : In p f' g' g) : d = d' := by
  have hpr := prime_rng p hp
  exact gd_uniq hp a.gd b.gd ((a.l.trans a.r (h1.trans h2 b.md)).dv (by omega)) ((b.l.trans b.r (h3.trans h4 a.md)).dv (by omega))
/-! ### moved to begin at exponent 0 -/
def fz (f : Pol) : Pol := match f with | [] => [] | t :: _ => moved (-t.1) f
def From0 (f : Pol) : Prop := f = [] ∨ ∃ l f1, f = (0, l) :: f1
theorem fz_mv (f : Pol) : ∃ n, fz f = moved n f := by
  cases f with
  | nil => exact ⟨0, rfl⟩
  | cons t r => exact ⟨-t.1, rfl⟩
theorem fz_from (f : Pol) : From0 (fz f) := by
  cases f with
  | nil => exact .inl rfl
  | cons t r =>
    refine .inr ⟨t.2, moved (-t.1) r, ?_⟩
    show (t.1 + -t.1, t.2) :: _ = _
    rw [Int.add_right_neg]
    rfl
theorem fz_nf {p : Int} {f : Pol} (h : Nf p f (cf f)) : Nf p (fz f) (cf (fz f)) := by
  obtain ⟨n, e⟩ := fz_mv f
  rw [e]
  exact h.mv n
theorem fz_len (f : Pol) : (fz f).length = f.length := by
  obtain ⟨n, e⟩ := fz_mv f
  rw [e]
  exact List.length_map _
theorem fz_wid {f : Pol} {N : Nat} (h : ∀ t ∈ f, ∀ s ∈ f, t.1 - s.1 < N) : ∀ t ∈ fz f, t.1 < N := by
  cases f with
  | nil => exact fun t ht => absurd ht List.not_mem_nil
  | cons u r =>
    intro t ht
    obtain ⟨z, hz, rfl⟩ := List.mem_map.mp ht
    have := h z hz u List.mem_cons_self
    show z.1 + -u.1 < N
    omega
theorem fz_in {p : Int} {f g u : Pol} (h : In p f g u) : In p f g (fz u) := by
  obtain ⟨n, e⟩ := fz_mv u
  rw [e]
  exact h.mv n
theorem fz_back {p : Int} {f g u : Pol} (h : In p f g (fz u)) : In p f g u := by
  obtain ⟨n, e⟩ := fz_mv u
  rw [e] at h
  have := h.mv (-n)
  rw [moved_back, Int.add_right_neg, moved_zero] at this
  exact this
theorem From0.ge {p : Int} {f : Pol} {F : Int → Int} (h : From0 f) (n : Nf p f F) : ∀ t ∈ f, 0 ≤ t.1 := by
  rcases h with z | ⟨l, f1, z⟩
  · rw [z]; exact fun t ht => absurd ht List.not_mem_nil
  · intro t ht
    have ha := n.asc
    rw [z] at ha ht
    exact asc_le ha ht
theorem nf_len {p : Int} {f : Pol} {F : Int → Int} {N : Nat} (n : Nf p f F) (h0 : ∀ t ∈ f, 0 ≤ t.1) (h9 : ∀ t ∈ f, t.1 < N) : f.length ≤ N := by
  have := n.self.len (L := (List.range N).map fun i : Nat => (i : Int)) fun e he => by
    rw [cf_none f e fun t ht z => he (List.mem_map.mpr ⟨e.toNat, List.mem_range.mpr ?_, ?_⟩)]
    · exact Int.zero_emod _
    · have := h0 t ht
      have := h9 t ht
      omega
    · have := h0 t ht
      show (e.toNat : Int) = e
      omega
  rw [List.length_map, List.length_range] at this
  exact this
theorem nf_first {p : Int} {d : Pol} {F : Int → Int} (n : Nf p d F) (h0 : ∀ t ∈ d, 0 ≤ t.1) (h : cf d 0 ≠ 0) : ∃ l d1, d = (0, l) :: d1 := by
  obtain ⟨t, ht, e⟩ := cf_ne h
  cases d with
  | nil => exact absurd ht List.not_mem_nil
  | cons u r =>
    have h1 := asc_le n.asc ht
    have h2 := h0 u List.mem_cons_self
    refine ⟨u.2, r, ?_⟩
    have : u.1 = 0 := by omega
    rw [← this]
theorem nf_lastc {p : Int} {d : Pol} {F : Int → Int} {deg : Int} (n : Nf p d F) (h9 : ∀ t ∈ d, t.1 ≤ deg) (h : cf d deg ≠ 0) : ∃ d0, d = d0 ++ [(deg, cf d deg)] := by
  obtain ⟨t, ht, e⟩ := cf_ne h
  have hd : d ≠ [] := fun z => by rw [z] at ht; cases ht
  obtain ⟨d0, m, c, rfl⟩ := ne_snoc hd
  have h1 := asc_last n.asc t ht
  have h1 : t.1 ≤ m := h1
  have h2 := h9 (m, c) (by simp)
  have h2 : m ≤ deg := h2
  have hm : m = deg := by omega
  subst hm
  exact ⟨d0, by rw [cf_mem n.asc (m, c) (by simp)]⟩
theorem gd_scale {p : Int} (hp : p ∈ primes) {u0 : Pol} {deg lead c : Int} {d : Pol} (nu : Nf p (u0 ++ [(deg, lead)]) (cf (u0 ++ [(deg, lead)]))) (hf : From0 (u0 ++ [(deg, lead)])) (hc0 : 0 < c) (hc9 : c < p) (hc : c * lead % p = 1) (nd : Nf p d (fun e => cf (u0 ++ [(deg, lead)]) e * c)) :
    Gd p d ∧ (∀ t ∈ d, ∃ s ∈ u0 ++ [(deg, lead)], s.1 = t.1) ∧ ∀ e, cf (u0 ++ [(deg, lead)]) e % p = cf d e * lead % p := by
  have hpr := prime_rng p hp
  have hsub : ∀ t ∈ d, ∃ s ∈ u0 ++ [(deg, lead)], s.1 = t.1 := nd.subP (R := fun x => ∃ s ∈ u0 ++ [(deg, lead)], s.1 = x) fun e he => by
    rw [cf_none _ e fun t ht z => he ⟨t, ht, z⟩, Int.zero_mul]
    exact Int.zero_emod _
  refine ⟨⟨nd.self, .inr ⟨?_, ?_⟩⟩, hsub, fun e => ?_⟩
  · have h0 := hf.ge nu
    refine nf_first nd (fun t ht => ?_) ?_
    · obtain ⟨s, hs, e⟩ := hsub t ht
      rw [← e]
      exact h0 s hs
    · rcases hf with z | ⟨l, f1, z⟩
      · cases u0 <;> cases z
      · rw [nd.cof]
        show cf (u0 ++ [(deg, lead)]) 0 * c % p ≠ 0
        have ha := nu.asc
        have hl := nu.rng (0, l) (by rw [z]; simp)
        rw [z] at ha ⊢
        rw [cf_mem ha (0, l) List.mem_cons_self]
        exact prime_nz hp hl.1 hl.2 hc0 hc9
  · have e1 : cf d deg = 1 := by
      rw [nd.cof]
      show cf (u0 ++ [(deg, lead)]) deg * c % p = 1
      rw [cf_mem nu.asc (deg, lead) (by simp), Int.mul_comm]
      exact hc
    obtain ⟨d0, hd⟩ := nf_lastc nd (deg := deg) (fun t ht => by
      obtain ⟨s, hs, e⟩ := hsub t ht
      rw [← e]
      exact asc_last nu.asc s hs) (by rw [e1]; decide)
    rw [e1] at hd
    exact ⟨d0, deg, hd⟩
  · rw [nd.cof, mul_emod_l, Int.mul_assoc, Int.mul_emod, hc]
    have : (1 : Int) % p = 1 := Int.emod_eq_of_lt (by decide) (by omega)
    rw [← this, ← Int.mul_emod, Int.mul_one]
/-- one step of Euclid's way -/
theorem gcd_step {p : Int} {f g u v q r : Pol} (h1 : In p f g u) (h2 : In p f g v) (h3 : In p u v f) (h4 : In p u v g) (h : ∀ e, (cf r e + cf (prods q v) e - cf u e) % p = 0) : In p f g r ∧ In p v r f ∧ In p v r g := by
  have hqv : ∀ e, cf (prods q v) e % p = conv q (cf v) e % p := fun e => by rw [cf_prods]
  have hr : In p f g r := In.sub h1 (h2.mul q hqv) fun e => eq_of_sub (Eq.trans (congrArg (· % p) (by omega)) (h e))
  have hu : In p v r u := In.add (In.r (f := v) (g := r)) (In.l.mul q hqv) fun e => (eq_of_sub (h e)).symm
  exact ⟨hr, hu.trans In.l h3, hu.trans In.l h4⟩
def sp_greatest_divisor (K : PySem.W.Frag) : Sp := fun vs H Q _ => ∃ (p : Int) (v1 v2 : V) (f g : Pol) (N : Nat), vs = [.int p, v1, v2] ∧ p ∈ primes ∧ TPol K H v1 f ∧ TPol K H v2 g ∧ Nf p f (cf f) ∧ Nf p g (cf g) ∧ (∀ t ∈ f, ∀ s ∈ f, t.1 - s.1 < N) ∧ (∀ t ∈ g, ∀ s ∈ g, t.1 - s.1 < N) ∧ N ≤ 900 ∧ f.length ≤ 1000000 ∧ g.length ≤ 1000000 ∧
  ∀ u H' d, Same H H' → TPol K H' u d → IsG p f g d → (∀ t ∈ d, 0 ≤ t.1 ∧ t.1 < N) → Q u H'
end DR
namespace DR
open PySem PySem.Spec PyProof.Rows L2
theorem ix_tupQ {X : Cx} (K : PySem.W.Frag) (h : X.K = K) : IxR X (rIxT K) := h ▸ ix_tup
/-- [k for k in range(lo, hi) if ..] -/
theorem lcFilR {σ : L2.St} {H : Hp} {vs : List Nat} {i : Nat} {ta : TA} {tt : TT} {te : TE} {Q : VK} (b : Int → Bool) (lo hi : Int) (hn : (hi - lo).toNat ≤ 100000) (hlo : lo.natAbs ≤ 100000) (hhi : hi.natAbs ≤ 100000) (ha : ∀ R : List V → Hp → Prop, R [.int lo, .int hi] H → ta σ H R)
    (hw : ∀ x, wipe ((wipe σ vs).set i (some x)) vs = wipe σ vs)
    (ht : ∀ x : Int, lo ≤ x → x < hi → ∀ H2, Same H H2 → ∀ S : Bool → Hp → Prop, S (b x) H2 → tt ((wipe σ vs).set i (some (.int x))) H2 S)
    (he : ∀ x H2 (S : VK), S (.int x) H2 → te ((wipe σ vs).set i (some (.int x))) H2 S)
    (k : ∀ D H2, H D = none → Same H H2 → H2 D = some (.lst (((((List.range (hi - lo).toNat).map fun j : Nat => lo + (j : Int)).filter b)).map V.int)) → Q (.ref D) H2) : tLc (iRng2 ta) (gName i) tt te vs σ H Q := by
  refine ha _ ⟨lo, hi, rfl, ⟨by omega, by omega, by omega, by omega⟩, fun D nD => ?_⟩
  refine lc_range (lo := lo) (n := (hi - lo).toNat) (fun m H2 => H2 D = some (.lst (((((List.range m).map fun j : Nat => lo + (j : Int)).filter b)).map V.int)) ∧ Same H H2) ⟨upd_same, same_new nD⟩ ?_ ?_
  · rintro m H2 hm ⟨hD, s2⟩
    refine ⟨hw _, ?_⟩
    refine ht _ (by omega) (by omega) _ s2 _ ?_
    have et : ((List.range (m + 1)).map fun j : Nat => lo + (j : Int)).filter b = ((List.range m).map fun j : Nat => lo + (j : Int)).filter b ++ [lo + (m : Int)].filter b := by rw [List.range_succ, List.map_append, List.filter_append]; rfl
    cases hp : b (lo + (m : Int)) with
    | true =>
      rw [if_pos rfl]
      refine he _ _ _ ?_
      have hlen := List.length_filter_le b ((List.range m).map fun j : Nat => lo + (j : Int))
      rw [List.length_map, List.length_range] at hlen
      refine ⟨_, hD, sl_lt (by rw [List.length_map]; omega), ?_, fun x o ex => ?_⟩
      · rw [upd_same, et, List.filter_cons_of_pos hp, List.map_append]
        rfl
      · rw [upd_ne (ne_of_none ex nD)]
        exact s2 _ _ ex
    | false =>
      rw [if_neg (by decide)]
      refine ⟨?_, s2⟩
      rw [hD, et, List.filter_cons_of_neg (by rw [hp]; decide), List.filter_nil, List.append_nil]
  · rintro H2 ⟨hD, s2⟩
    exact k D H2 nD s2 hD
end DR
namespace DR
open PySem PySem.Spec PyProof.Rows L2
/-- the inverse found by a comprehension -/
theorem inv_first {p : Int} (hp : p ∈ primes) {a : Int} (h0 : 0 < a) (h9 : a < p) : ∃ u, (((List.range (p - 1).toNat).map fun j : Nat => (1 : Int) + (j : Int)).filter fun x => decide (V.int (x * a % p) = V.int 1)).head? = some u ∧ 0 < u ∧ u < p ∧ u * a % p = 1 := by
  have hpr := prime_rng p hp
  obtain ⟨w, hw, hw0, hwa⟩ := inv_there p hp a.toNat (List.mem_range.mpr (by omega)) (by omega)
  rw [Int.toNat_of_nonneg (by omega)] at hwa
  have hw9 := List.mem_range.mp hw
  have hmem : (w : Int) ∈ ((List.range (p - 1).toNat).map fun j : Nat => (1 : Int) + (j : Int)).filter fun x => decide (V.int (x * a % p) = V.int 1) := by
    refine List.mem_filter.mpr ⟨List.mem_map.mpr ⟨w - 1, List.mem_range.mpr (by omega), by omega⟩, decide_eq_true (by rw [hwa])⟩
  cases hL : ((List.range (p - 1).toNat).map fun j : Nat => (1 : Int) + (j : Int)).filter fun x => decide (V.int (x * a % p) = V.int 1) with
  | nil => rw [hL] at hmem; cases hmem
  | cons u r =>
    have hu : u ∈ ((List.range (p - 1).toNat).map fun j : Nat => (1 : Int) + (j : Int)).filter fun x => decide (V.int (x * a % p) = V.int 1) := by rw [hL]; exact List.mem_cons_self
    obtain ⟨h1, h2⟩ := List.mem_filter.mp hu
    obtain ⟨j, hj, rfl⟩ := List.mem_map.mp h1
    have hj := List.mem_range.mp hj
    have h3 := of_decide_eq_true h2
    exact ⟨_, rfl, by omega, by omega, by injection h3⟩
/-- within long division as the laws do it -/
structure LdI (p lf wg : Int) (f g R Q : Pol) (m N : Nat) : Prop where
  nf : Nf p R (cf R)
  lo : ∀ t ∈ R, lf ≤ t.1
  hi : ∀ t ∈ R, t.1 < lf + wg + m
  to : ∀ t ∈ R, t.1 < lf + N
  eq : ∀ e, (cf R e + cf (prods Q g) e - cf f e) % p = 0
theorem LdI.next {p lf lg dg lead l0 : Int} (hp : p ∈ primes) {f g g0 g1 R0 R Q T S R' : Pol} {m N : Nat} {top rt c un : Int} (hR : R = R0 ++ [(top, rt)]) (h : LdI p lf (dg - lg) f g R Q m N) (ng : Nf p g (cf g)) (hg : g = g0 ++ [(dg, lead)]) (hg1 : g = (lg, l0) :: g1) (ht : lf + (dg - lg) ≤ top) (hu : un * lead % p = 1) (hc : c = rt * un % p)
    (nT : Nf p T (cf (prods [(top - dg, c)] g))) (nS : Nf p S (fun e => cf T e * -1)) (nR : Nf p R' (fun e => cf R e + cf S e)) : LdI p lf (dg - lg) f g R' (Q ++ [(top - dg, c)]) (top - lf - (dg - lg)).toNat N := by
  have hpr := prime_rng p hp
  have htop : (top, rt) ∈ R := by rw [hR]; simp
  have key : ∀ e, cf R' e % p = (cf R e - c * cf g (e - (top - dg))) % p := fun e => by
    rw [nR.cof, Int.emod_emod]
    refine eq_of_sub ?_
    have e1 : cf T e % p = c * cf g (e - (top - dg)) % p := by
      rw [nT.cof, Int.emod_emod, cf_prods]
      show (c * cf g (e - (top - dg)) + 0) % p = _
      rw [Int.add_zero]
    have e2 : (cf S e + cf T e) % p = 0 := by
      rw [nS.cof, add_emod_l, show cf T e * -1 + cf T e = 0 by omega]
      exact Int.zero_emod _
    refine Eq.trans (congrArg (· % p) ?_) (z_sub e2 (sub_of_eq e1))
    omega
  have asc := h.nf.asc
  have gl : ∀ t ∈ g, lg ≤ t.1 ∧ t.1 ≤ dg := fun t ht => by
    have a1 := ng.asc
    have a2 := ng.asc
    rw [hg1] at a1
    rw [hg] at a2
    exact ⟨asc_le a1 (by rw [← hg1]; exact ht), asc_last a2 t (by rw [← hg]; exact ht)⟩
  have rl : ∀ t ∈ R, t.1 ≤ top := fun t ht => by
    rw [hR] at asc ht
    exact asc_last asc t ht
  have sup : ∀ t ∈ R', lf ≤ t.1 ∧ t.1 < top := nR.self.subP (R := fun x => lf ≤ x ∧ x < top) fun e he => by
    rw [key]
    by_cases z : e = top
    · have e1 : cf R top = rt := cf_mem asc (top, rt) htop
      have e2 : cf g (top - (top - dg)) = lead := by
        rw [show top - (top - dg) = dg by omega]
        exact cf_mem ng.asc (dg, lead) (by rw [hg]; simp)
      rw [z, e1, e2, hc, Int.sub_emod, mul_emod_l, Int.mul_assoc, Int.mul_emod, hu]
      have : (1 : Int) % p = 1 := Int.emod_eq_of_lt (by decide) (by omega)
      rw [← this, ← Int.mul_emod, Int.mul_one, Int.sub_self, Int.zero_emod]
    · have e1 : cf R e = 0 := cf_none _ _ fun t ht q => by
        have := h.lo t ht
        have := rl t ht
        omega
      have e2 : cf g (e - (top - dg)) = 0 := cf_none _ _ fun t ht q => by
        have := gl t ht
        omega
      rw [e1, e2, Int.mul_zero]
      exact Int.zero_emod _
  have htl := h.lo _ htop
  have htl : lf ≤ top := htl
  have htt := h.to _ htop
  have htt : top < lf + N := htt
  refine ⟨nR.self, fun t ht => (sup t ht).1, fun t ht => ?_, fun t ht => ?_, fun e => ?_⟩
  · have := (sup t ht).2
    omega
  · have := (sup t ht).2
    omega
  · rw [prods_snoc, cf_append, cf_times]
    have a1 := h.eq e
    have a2 := sub_of_eq (key e)
    refine Eq.trans (congrArg (· % p) ?_) (z_add a1 a2)
    show _ + (_ + c * cf g (e - (top - dg))) - _ = _
    omega
theorem lo_len {p lf : Int} {R : Pol} {N : Nat} (n : Nf p R (cf R)) (lo : ∀ t ∈ R, lf ≤ t.1) (to : ∀ t ∈ R, t.1 < lf + N) : R.length ≤ N := by
  have h := nf_len (n.mv (-lf)) (N := N) (fun t ht => by
    obtain ⟨z, hz, rfl⟩ := List.mem_map.mp ht
    have := lo z hz
    show 0 ≤ z.1 + -lf
    omega) (fun t ht => by
    obtain ⟨z, hz, rfl⟩ := List.mem_map.mp ht
    have := to z hz
    show z.1 + -lf < N
    omega)
  rw [show (moved (-lf) R).length = R.length from List.length_map _] at h
  exact h
theorem wid_len {p : Int} {R : Pol} {N : Nat} (n : Nf p R (cf R)) (w : ∀ t ∈ R, ∀ s ∈ R, t.1 - s.1 < N) : R.length ≤ N := by
  cases R with
  | nil => exact Nat.zero_le _
  | cons u r => exact lo_len (lf := u.1) n (fun t ht => asc_le n.asc ht) fun t ht => by have := w t ht u List.mem_cons_self; omega
def sp__law_divided (K : PySem.W.Frag) : Sp := fun vs H Q _ => ∃ (p : Int) (v1 v2 : V) (f g g0 g1 : Pol) (dg lead lg l0 : Int) (N : Nat), vs = [.int p, v1, v2] ∧ p ∈ primes ∧ TPol K H v1 f ∧ TPol K H v2 g ∧ Nf p f (cf f) ∧ Nf p g (cf g) ∧ g = g0 ++ [(dg, lead)] ∧ g = (lg, l0) :: g1 ∧ (∀ t ∈ f, ∀ s ∈ f, t.1 - s.1 < N) ∧ (∀ t ∈ g, ∀ s ∈ g, t.1 - s.1 < N) ∧ N ≤ 900 ∧
  ∀ (a : Addr) (x y : V) (H' : Hp) (q r : Pol), Same H H' → SqT K H' a [x, y] → TPol K H' y r → Nf p r (cf r) → (∀ e, (cf r e + cf (prods q g) e - cf f e) % p = 0) → (∀ t ∈ r, ∀ s ∈ r, t.1 - s.1 < dg - lg) → Q (.ref a) H'
def sp__law_common7 (K : PySem.W.Frag) : Sp := fun vs H Q _ => ∃ (p : Int) (v1 v2 : V) (f g : Pol) (N : Nat), vs = [.int p, v1, v2] ∧ p ∈ primes ∧ TPol K H v1 f ∧ TPol K H v2 g ∧ Nf p f (cf f) ∧ Nf p g (cf g) ∧ (∀ t ∈ f, ∀ s ∈ f, t.1 - s.1 < N) ∧ (∀ t ∈ g, ∀ s ∈ g, t.1 - s.1 < N) ∧ N ≤ 900 ∧
  ∀ u H' d, Same H H' → TPol K H' u d → IsG p f g d → (∀ t ∈ d, 0 ≤ t.1 ∧ t.1 < N) → Q u H'
end DR
namespace DR
open PySem PySem.Spec PyProof.Rows L2
/-- a pair of polynomials -/
def PrV (K : PySem.W.Frag) (H : Hp) (v : V) (f g : Pol) : Prop := ∃ a x y, v = .ref a ∧ SqT K H a [x, y] ∧ TPol K H x f ∧ TPol K H y g
theorem PrV.tp {K : PySem.W.Frag} {H H' : Hp} {v : V} {f g : Pol} (e : Tp H H') (h : PrV K H v f g) : PrV K H' v f g := by
  obtain ⟨a, x, y, rfl, h1, h2, h3⟩ := h
  exact ⟨a, x, y, rfl, tp_t e h1, h2.tp e, h3.tp e⟩
theorem PrV.new {K : PySem.W.Frag} {H : Hp} {x y : V} {t : Addr} {f g : Pol} (n : H t = none) (h1 : TPol K H x f) (h2 : TPol K H y g) : PrV K (upd H t (.tup [x, y])) (.ref t) f g := ⟨t, x, y, rfl, SqT.of upd_same, h1.tp (tp_new n), h2.tp (tp_new n)⟩
structure PrF (q : Int) (f g : Pol) : Prop where
  nf : Nf q f (cf f)
  ng : Nf q g (cf g)
  bf : ∀ t ∈ f, t.1.natAbs ≤ 120
  bg : ∀ t ∈ g, t.1.natAbs ≤ 120
theorem wid_mv {f : Pol} {N : Nat} (n : Int) (h : ∀ t ∈ f, ∀ s ∈ f, t.1 - s.1 < (N : Int)) : ∀ t ∈ moved n f, ∀ s ∈ moved n f, t.1 - s.1 < (N : Int) := fun t ht s hs => by
  obtain ⟨a, ha, rfl⟩ := List.mem_map.mp ht
  obtain ⟨b, hb, rfl⟩ := List.mem_map.mp hs
  have := h a ha b hb
  show a.1 + n - (b.1 + n) < (N : Int)
  omega
theorem in_mv_back {p : Int} {f g u : Pol} (n : Int) (h : In p f g (moved n u)) : In p f g u := by
  have := h.mv (-n)
  rw [moved_back, Int.add_right_neg, moved_zero] at this
  exact this
theorem gd_sm {p : Int} {d : Pol} {N : Nat} (hp : p ≤ 97) (h : Gd p d) (hN : N ≤ 900) (b : ∀ t ∈ d, 0 ≤ t.1 ∧ t.1 < N) : Sm d := by
  refine ⟨Nat.le_trans (nf_len h.nf (fun t ht => (b t ht).1) (fun t ht => (b t ht).2)) (by omega), fun t ht => ?_⟩
  have h1 := b t ht
  have h2 := h.nf.rng t ht
  have h3 : 900 < 10 ^ 100 := by decide +kernel
  constructor <;> omega
end DR
namespace DR
open PySem PySem.Spec PyProof.Rows L2
theorem conv_shift (n : Int) (G : Int → Int) : ∀ (f : Pol) (e : Int), conv f (fun x => G (x - n)) e = conv f G (e - n)
  | [], e => rfl
  | t :: r, e => by
    show t.2 * G (e - t.1 - n) + conv r _ e = t.2 * G (e - n - t.1) + conv r G (e - n)
    rw [conv_shift n G r e, show e - t.1 - n = e - n - t.1 by omega]
theorem conv_swap (f : Pol) (G : Int → Int) : ∀ (x : Pol) (e : Int), conv x (conv f G) e = conv f (conv x G) e
  | [], e => (conv_zero f e).symm
  | t :: r, e => by
    show t.2 * conv f G (e - t.1) + conv r (conv f G) e = conv f (fun y => t.2 * G (y - t.1) + conv r G y) e
    rw [conv_add (fun y => t.2 * G (y - t.1)) (conv r G), conv_smul t.2 (fun y => G (y - t.1)), conv_shift, conv_swap f G r e]
section
variable {p : Int}
/-- all multiplied by one -/
theorem In.tms {f a b u L R D : Pol} (h : In p a b u) (hl : ∀ e, cf L e % p = conv f (cf a) e % p) (hr : ∀ e, cf R e % p = conv f (cf b) e % p) (hd : ∀ e, cf D e % p = conv f (cf u) e % p) : In p L R D := by
  obtain ⟨x, y, h⟩ := h
  refine ⟨x, y, fun e => ?_⟩
  rw [hd e, ← conv_mod h f e, conv_add, Int.add_emod, conv_mod hl x e, conv_mod hr y e, ← Int.add_emod, conv_swap f (cf a) x, conv_swap f (cf b) y]
theorem conv_none (f : Pol) (e : Int) : conv f (cf []) e = 0 := (conv_congr (G' := fun _ => 0) (fun _ => rfl) f e).trans (conv_zero f e)
theorem IsG.mono (hp : 2 ≤ p) (e : Int) (g : Pol) : IsG p [(e, 1)] g [(0, 1)] := by
  have all : ∀ u, In p [(0, 1)] [] u := fun u => ⟨u, [], fun x => by
    rw [conv_comm, conv_one, Int.sub_zero, conv_nil, Int.add_zero]⟩
  refine ⟨⟨nf_one (by decide) (by omega), .inr ⟨⟨1, [], rfl⟩, [], 0, rfl⟩⟩, ?_, all _, all _⟩
  have := (In.l (p := p) (f := [(e, 1)]) (g := g)).mv (-e)
  have e1 : moved (-e) [(e, 1)] = [(0, 1)] := by
    show [(e + -e, 1)] = _
    rw [Int.add_right_neg]
  rw [e1] at this
  exact this
/-! ### 1 - t ** k -/
def GapP (p : Int) (g : Pol) (k : Int) : Prop := Nf p g (fun e => cf [(0, 1)] e - cf [(k, 1)] e)
theorem gap_ex (hp : 0 < p) (k : Int) : ∃ g, GapP p g k := by
  obtain ⟨g, h⟩ := nf_ex hp [(0, 1), (k, -1)]
  refine ⟨g, h.to fun e => ?_⟩
  congr 1
  show (if 0 = e then 1 else 0) + ((if k = e then -1 else 0) + 0) = (if 0 = e then 1 else 0) + 0 - ((if k = e then 1 else 0) + 0)
  split <;> split <;> omega
def GapIn (p : Int) (f g : Pol) (k : Int) : Prop := ∀ u, GapP p u k → In p f g u
theorem cf_one1 (k e : Int) : cf [(k, 1)] e = if k = e then 1 else 0 := by
  show (if k = e then 1 else 0) + 0 = _
  rw [Int.add_zero]
theorem GapIn.sub (hp : 0 < p) {f g : Pol} {a b : Int} (h : GapIn p f g a) (h2 : GapIn p f g b) : GapIn p f g (a - b) := fun u hu => by
  obtain ⟨ua, ha⟩ := gap_ex hp a
  obtain ⟨ub, hb⟩ := gap_ex hp b
  obtain ⟨w, hw⟩ := nf_ex hp (ua ++ ub.map fun t => (t.1, t.2 * -1))
  have hw2 : ∀ e, cf w e % p = (cf ua e - cf ub e) % p := fun e => by
    rw [hw.cof, Int.emod_emod, cf_append, cf_scale]
    congr 1
    omega
  have iw : In p f g w := (h ua ha).sub (h2 ub hb) hw2
  refine (iw.mv (-b)).to fun e => ?_
  rw [cf_moved, hw2, ha.cof, hb.cof, hu.cof, Int.emod_emod, ← Int.sub_emod]
  congr 1
  rw [show e - -b = e + b by omega, cf_one1, cf_one1, cf_one1, cf_one1, cf_one1]
  by_cases h1 : a = e + b
  · rw [if_pos h1, if_pos (by omega : a - b = e)]
    by_cases h3 : b = e + b
    · rw [if_pos h3, if_pos (by omega : (0 : Int) = e)]
      omega
    · rw [if_neg h3, if_neg (by omega : ¬ (0 : Int) = e)]
      omega
  · rw [if_neg h1, if_neg (by omega : ¬ a - b = e)]
    by_cases h3 : b = e + b
    · rw [if_pos h3, if_pos (by omega : (0 : Int) = e)]
      omega
    · rw [if_neg h3, if_neg (by omega : ¬ (0 : Int) = e)]
      omega
theorem sub_gcd {S : Int → Prop} (hs : ∀ a b, S a → S b → S (a - b)) (w n : Nat) : S (w : Int) → S (n : Int) → S ((Nat.gcd w n : Nat) : Int) := by
  refine Nat.gcd.induction (P := fun w n => S (w : Int) → S (n : Int) → S ((Nat.gcd w n : Nat) : Int)) w n (fun n _ h => by rw [Nat.gcd_zero_left]; exact h) fun m n hm ih h1 h2 => ?_
  rw [Nat.gcd_rec]
  refine ih ?_ h1
  have key : ∀ k : Nat, k * m ≤ n → S ((n : Int) - ((k * m : Nat) : Int)) := by
    intro k
    induction k with
    | zero => intro _; rw [Nat.zero_mul, Int.natCast_zero, Int.sub_zero]; exact h2
    | succ k ih =>
      intro hk
      rw [Nat.succ_mul] at hk ⊢
      have := hs _ _ (ih (by omega)) h1
      rw [show ((k * m + m : Nat) : Int) = ((k * m : Nat) : Int) + (m : Int) from Int.natCast_add _ _, ← Int.sub_sub]
      exact this
  have h3 := key (n / m) (Nat.div_mul_le_self n m)
  have h4 := Nat.mod_add_div n m
  rw [Nat.mul_comm] at h4
  rw [show (n : Int) - ((n / m * m : Nat) : Int) = ((n % m : Nat) : Int) by omega] at h3
  exact h3
/-- the shorter divides the longer -/
theorem gap_dv (hp : 0 < p) {u v : Pol} {k c : Int} (hc : 0 ≤ c) (hu : GapP p u k) (hv : GapP p v (c * k)) {g : Pol} : In p u g v := by
  obtain ⟨geo, ng⟩ := nf_ex hp (rounds c.toNat k)
  refine (In.l.mul geo (r := v) fun e => ?_)
  have h1 := geo_close hu ng hc e
  rw [cf_prods, conv_comm] at h1
  rw [h1, hv.cof, Int.emod_emod]
end
theorem gcd_last : ∀ w ∈ List.range 31, ∀ n ∈ List.range 31, 0 < w → 0 < n → (((List.range n).map fun j : Nat => (1 : Int) + (j : Int)).filter fun x => decide ((w : Int) % x = 0) && decide ((n : Int) % x = 0)).getLast? = some ((Nat.gcd w n : Nat) : Int) := by decide +kernel
def sp__law_gap (K : PySem.W.Frag) : Sp := fun vs H Q _ => ∃ (p k : Int), vs = [.int p, .int k] ∧ 0 < p ∧ ∀ u H' g, Same H H' → TPol K H' u g → GapP p g k → Q u H'
theorem IsG.gaps {p : Int} (hp : p ∈ primes) {W N G d d' : Pol} {w n : Nat} (hw : 0 < w) (hn : 0 < n) (gW : GapP p W (w : Int)) (gN : GapP p N (n : Int)) (gG : GapP p G ((Nat.gcd w n : Nat) : Int)) (h : IsG p W N d) (h' : IsG p G [] d') : d = d' := by
  have hpr := prime_rng p hp
  have hp0 : 0 < p := by omega
  have same : ∀ {u v : Pol} {k : Int}, GapP p u k → GapP p v k → u = v := fun a b => a.uniq b fun _ => rfl
  refine h.uniq hp h' ?_ In.z ?_ ?_
  · exact sub_gcd (S := GapIn p W N) (fun a b h1 h2 => h1.sub hp0 h2) w n (fun u hu => by rw [same hu gW]; exact In.l) (fun u hu => by rw [same hu gN]; exact In.r) G gG
  · obtain ⟨c, hc⟩ := Nat.gcd_dvd_left w n
    refine gap_dv hp0 (c := (c : Int)) (by omega) gG ?_
    rw [show (c : Int) * ((Nat.gcd w n : Nat) : Int) = ((w : Nat) : Int) by rw [← Int.natCast_mul, Nat.mul_comm, ← hc]]
    exact gW
  · obtain ⟨c, hc⟩ := Nat.gcd_dvd_right w n
    refine gap_dv hp0 (c := (c : Int)) (by omega) gG ?_
    rw [show (c : Int) * ((Nat.gcd w n : Nat) : Int) = ((n : Nat) : Int) by rw [← Int.natCast_mul, Nat.mul_comm, ← hc]]
    exact gN
theorem IsG.times {p : Int} (hp : p ∈ primes) {f a b L R e D d d' : Pol} (hl : ∀ x, cf L x % p = conv f (cf a) x % p) (hr : ∀ x, cf R x % p = conv f (cf b) x % p) (hD : ∀ x, cf D x % p = conv f (cf e) x % p) (ge : IsG p a b e) (h : IsG p L R d) (h' : IsG p D [] d') : d = d' := by
  have z : ∀ x, cf ([] : Pol) x % p = conv f (cf []) x % p := fun x => by rw [conv_none]; rfl
  exact h.uniq hp h' (ge.md.tms hl hr hD) In.z (ge.l.tms hD z hl) (ge.r.tms hD z hr)
theorem IsG.assoc {p : Int} (hp : p ∈ primes) {a b c g12 g23 d d' : Pol} (h1 : IsG p a b g12) (h2 : IsG p b c g23) (h : IsG p g12 c d) (h' : IsG p a g23 d') : d = d' :=
  h.uniq hp h' h1.l.one (In.trans h1.r.one In.r h2.md) (In.trans In.l (h2.l.one (g := a)).swap h1.md) (h2.r.one (g := a)).swap
end DR
namespace DR
open PySem PySem.Spec PyProof.Rows L2
/-! ### sums over the terms, class sums -/
def ws (φ : Int → Int) : Pol → Int
  | [] => 0
  | t :: r => t.2 * φ t.1 + ws φ r
theorem ws_append (φ : Int → Int) : ∀ f g : Pol, ws φ (f ++ g) = ws φ f + ws φ g
  | [], g => by
    show ws φ g = 0 + ws φ g
    omega
  | t :: r, g => by
    show t.2 * φ t.1 + ws φ (r ++ g) = t.2 * φ t.1 + ws φ r + ws φ g
    rw [ws_append φ r g]
    omega
theorem ws_split (φ : Int → Int) (x : Int) : ∀ h : Pol, ws φ h = cf h x * φ x + ws φ (drp h x)
  | [] => by
    show (0 : Int) = 0 * φ x + 0
    rw [Int.zero_mul]
    rfl
  | t :: r => by
    have ih := ws_split φ x r
    by_cases q : t.1 = x
    · have e1 : drp (t :: r) x = drp r x := by
        unfold drp
        rw [List.filter_cons_of_neg (by simp [q])]
      rw [e1, cf_cons, if_pos q, Int.add_mul]
      show t.2 * φ t.1 + ws φ r = _
      rw [q]
      omega
    · have e1 : drp (t :: r) x = t :: drp r x := by
        unfold drp
        rw [List.filter_cons_of_pos (by simp [q])]
      rw [e1, cf_cons, if_neg q, Int.zero_add]
      show t.2 * φ t.1 + ws φ r = cf r x * φ x + (t.2 * φ t.1 + ws φ (drp r x))
      omega
theorem ws_zero {p : Int} (φ : Int → Int) : ∀ (n : Nat) (h : Pol), h.length ≤ n → (∀ x, cf h x % p = 0) → ws φ h % p = 0
  | _, [], _, _ => Int.zero_emod _
  | 0, t :: r, hl, _ => by simp at hl
  | n + 1, t :: r, hl, hz => by
    rw [ws_split φ t.1]
    refine z_add ?_ (ws_zero φ n _ ?_ fun x => ?_)
    · rw [Int.mul_emod, hz, Int.zero_mul, Int.zero_emod]
    · have e1 : drp (t :: r) t.1 = drp r t.1 := by
        unfold drp
        rw [List.filter_cons_of_neg (by simp)]
      rw [e1]
      have := drp_len r t.1
      simp only [List.length_cons] at hl
      omega
    · rw [drp_cf]
      split
      · exact Int.zero_emod _
      · exact hz x
theorem ws_neg (φ : Int → Int) : ∀ f : Pol, ws φ (f.map fun t => (t.1, t.2 * -1)) = ws φ f * -1
  | [] => rfl
  | t :: r => by
    show t.2 * -1 * φ t.1 + ws φ (r.map fun t => (t.1, t.2 * -1)) = (t.2 * φ t.1 + ws φ r) * -1
    rw [ws_neg φ r, Int.add_mul, Int.mul_right_comm]
theorem ws_congr {p : Int} (φ : Int → Int) {f g : Pol} (h : ∀ x, cf f x % p = cf g x % p) : ws φ f % p = ws φ g % p := by
  have := ws_zero (p := p) φ _ (f ++ g.map fun t => (t.1, t.2 * -1)) (Nat.le_refl _) fun x => by
    rw [cf_append, cf_scale]
    have := sub_of_eq (h x)
    rw [show cf f x + cf g x * -1 = cf f x - cf g x by omega]
    exact this
  rw [ws_append, ws_neg] at this
  refine eq_of_sub ?_
  rw [show ws φ f - ws φ g = ws φ f + ws φ g * -1 by omega]
  exact this
theorem ws_moved (φ : Int → Int) (a : Int) : ∀ f : Pol, ws φ (moved a f) = ws (fun x => φ (x + a)) f
  | [] => rfl
  | t :: r => by
    show t.2 * φ (t.1 + a) + ws φ (moved a r) = t.2 * φ (t.1 + a) + ws (fun x => φ (x + a)) r
    rw [ws_moved φ a r]
def wrap (n : Int) (f : Pol) : Pol := f.map fun t => (t.1 % n, t.2)
theorem cf_wrap (n e : Int) : ∀ f : Pol, cf (wrap n f) e = ws (fun x => if x % n = e then 1 else 0) f
  | [] => rfl
  | t :: r => by
    show (if t.1 % n = e then t.2 else 0) + cf (wrap n r) e = t.2 * (if t.1 % n = e then 1 else 0) + ws _ r
    rw [cf_wrap n e r]
    split <;> omega
/-- what 1 - t ** a divides has no class sums -/
theorem wrap_zero {p n a : Int} (hn : a % n = 0) {q f : Pol} (h : ∀ e, (cf q e - cf q (e - a)) % p = cf f e % p) (e : Int) : cf (wrap n f) e % p = 0 := by
  rw [cf_wrap]
  rw [ws_congr (p := p) (f := f) (g := q ++ (moved a q).map fun t => (t.1, t.2 * -1)) _ fun x => by
    rw [cf_append, cf_scale, cf_moved, ← h x]
    congr 1
    omega]
  rw [ws_append, ws_neg, ws_moved]
  have : (fun x : Int => if (x + a) % n = e then (1 : Int) else 0) = fun x => if x % n = e then 1 else 0 := funext fun x => by
    obtain ⟨c, rfl⟩ := Int.dvd_of_emod_eq_zero hn
    rw [Int.add_mul_emod_self_left]
  rw [this]
  rw [show ∀ z : Int, z + z * -1 = 0 by intro z; omega]
  exact Int.zero_emod _
/-! ### commuting: q (1 - t ** s) = f (1 - t ** k) -/
def Cm (p : Int) (f : Pol) (s : Int) (q : Pol) (k : Int) : Prop := ∀ e, (cf q e - cf q (e - s)) % p = (cf f e - cf f (e - k)) % p
theorem Cm.uniq {p : Int} (hp : p ∈ primes) {f q q' : Pol} {s k : Int} (hs : s ≠ 0) (nq : Nf p q (cf q)) (nq' : Nf p q' (cf q')) (h : Cm p f s q k) (h' : Cm p f s q' k) : q = q' := by
  have hpr := prime_rng p hp
  obtain ⟨g, ng⟩ := gap_ex (p := p) (by omega) s
  refine nq.uniq nq' fun e => conv_cancel hp ng.self (gap_ne hpr.1 hs ng) (fun e => ?_) e
  rw [gap_conv ng, gap_conv ng, h e, h' e]
theorem mod_sub {p a b c d : Int} (h : a % p = b % p) (k : c % p = d % p) : (a - c) % p = (b - d) % p := by
  rw [Int.sub_emod, h, k, ← Int.sub_emod]
theorem mod_add {p a b c d : Int} (h : a % p = b % p) (k : c % p = d % p) : (a + c) % p = (b + d) % p := by
  rw [Int.add_emod, h, k, ← Int.add_emod]
/-- a power's polynomial over its base -/
theorem Cm.power {p : Int} (hp : p ∈ primes) {f q : Pol} {s k n : Int} (hk : k ≠ 0) (hn : 0 ≤ n) (hs : s = n * k) (h : Cm p f s q k) (e : Int) : pwF (cf q) k n e % p = cf f e % p := by
  have hpr := prime_rng p hp
  obtain ⟨g, ng⟩ := gap_ex (p := p) (by omega) k
  have e1 : ∀ x, pwF (cf q) k n x = conv q (cf (rounds n.toNat k)) x := fun x => (pw_rounds q k hn x).symm
  have e2 : ∀ x, pwF (cf q) k n x = cf (prods q (rounds n.toNat k)) x := fun x => by rw [e1, cf_prods]
  have tel : ∀ x, pwF (cf q) k n x - pwF (cf q) k n (x - k) = cf q x - cf q (x - n * k) := fun x => by
    have h1 := pw_add (cf q) k 1 n x
    have h2 := pw_add (cf q) k n 1 x
    rw [pw_one] at h1 h2
    rw [Int.one_mul] at h1
    rw [Int.add_comm 1 n] at h1
    omega
  have key : ∀ x, cf (prods q (rounds n.toNat k)) x % p = cf f x % p := conv_cancel hp ng.self (gap_ne hpr.1 hk ng) fun x => by
    rw [gap_conv ng, gap_conv ng, ← e2, ← e2, tel, ← hs]
    exact h x
  rw [e2]
  exact key e
theorem Cm.of_power {p : Int} {f q : Pol} {s k n : Int} (hs : s = n * k) (h : ∀ e, pwF (cf q) k n e % p = cf f e % p) : Cm p f s q k := fun x => by
  have tel : pwF (cf q) k n x - pwF (cf q) k n (x - k) = cf q x - cf q (x - n * k) := by
    have h1 := pw_add (cf q) k 1 n x
    have h2 := pw_add (cf q) k n 1 x
    rw [pw_one] at h1 h2
    rw [Int.one_mul] at h1
    rw [Int.add_comm 1 n] at h1
    omega
  rw [hs, ← tel]
  exact mod_sub (h x) (h (x - k))
/-! ### the promises -/
def sp_wrapped (K : PySem.W.Frag) : Sp := fun vs H Q _ => ∃ (p : Int) (v : V) (f : Pol) (n : Int), vs = [.int p, v, .int n] ∧ 0 < p ∧ TPol K H v f ∧ f.length ≤ 1000000 ∧ 0 ≤ n ∧
  ∀ u H' g, Same H H' → TPol K H' u g → (n = 0 → g = f) → (n ≠ 0 → Nf p g (cf (wrap n f))) → Q u H'
def sp_divide_by_one_less (K : PySem.W.Frag) : Sp := fun vs H Q _ => ∃ (p : Int) (v : V) (f : Pol) (a : Int) (N : Nat), vs = [.int p, v, .int a] ∧ p ∈ primes ∧ TPol K H v f ∧ Nf p f (cf f) ∧ (∀ t ∈ f, ∀ s ∈ f, t.1 - s.1 < N) ∧ f.length + (N + 1) * 2 ≤ 1000000 ∧
  ∀ u H', Same H H' → ((u = .non ∧ ∀ q : Pol, ¬ ∀ e, (cf q e - cf q (e - a)) % p = cf f e % p) ∨ ∃ q, TPol K H' u q ∧ Nf p q (cf q) ∧ (∀ e, (cf q e - cf q (e - a)) % p = cf f e % p) ∧ q.length ≤ N) → Q u H'
def sp_root_of_moving (K : PySem.W.Frag) : Sp := fun vs H Q _ => ∃ (p : Int) (v : V) (f : Pol) (s n : Int) (N : Nat), vs = [.int p, v, .int n] ∧ p ∈ primes ∧ TEff K H v f s ∧ Nf p f (cf f) ∧ s ≠ 0 ∧ 0 < n ∧ n < 2 ^ 30 ∧ (∀ t ∈ f, ∀ u ∈ f, t.1 - u.1 < N) ∧ 2 * f.length + (N + s.natAbs + 1) * 2 ≤ 1000000 ∧
  ∀ u H', Same H H' → ((u = .non ∧ (s % n ≠ 0 ∨ ∀ q : Pol, ¬ Cm p f s q (s / n))) ∨ (s % n = 0 ∧ ∃ q, TEff K H' u q (s / n) ∧ Nf p q (cf q) ∧ Cm p f s q (s / n) ∧ q.length ≤ N + s.natAbs)) → Q u H'
def sp_nth_root (K : PySem.W.Frag) : Sp := fun vs H Q _ => ∃ (p : Int) (v : V) (f : Pol) (s n : Int) (N : Nat), vs = [.int p, v, .int n] ∧ p ∈ primes ∧ TEff K H v f s ∧ Nf p f (cf f) ∧ 0 < n ∧ n < 2 ^ 30 ∧ (∀ t ∈ f, ∀ u ∈ f, t.1 - u.1 < N) ∧ 2 * f.length + (N + s.natAbs + 1) * 2 ≤ 1000000 ∧
  (s ≠ 0 → ∀ u H', Same H H' → ((u = .non ∧ (s % n ≠ 0 ∨ ∀ q : Pol, ¬ Cm p f s q (s / n))) ∨ (s % n = 0 ∧ ∃ q, TEff K H' u q (s / n) ∧ Nf p q (cf q) ∧ Cm p f s q (s / n) ∧ q.length ≤ N + s.natAbs)) → Q u H') ∧
  (s = 0 → ∀ u H', Same H H' → ((u = .non ∧ f ≠ [] ∧ n % p = 0) ∨ (¬ (f ≠ [] ∧ n % p = 0) ∧ ∃ q, TEff K H' u q 0 ∧ Nf p q (cf q) ∧ q.length ≤ f.length ∧ ∀ e, n * cf q e % p = cf f e % p)) → Q u H')
/-- reciprocal of any number that the prime does not divide -/
def sp_reciprocalW : Sp := fun vs H Q _ => ∃ (p a : Int), vs = [.int p, .int a] ∧ p ∈ primes ∧ a % p ≠ 0 ∧ ∀ u : Int, 0 < u → u < p → u * a % p = 1 → Q (.int u) H
theorem rec_imp : ∀ vs H Q E, sp_reciprocal vs H Q E → sp_reciprocalW vs H Q E := by
  rintro vs H Q E ⟨p, a, rfl, hp, h0, h9, k⟩
  exact ⟨p, a, rfl, hp, by rw [Int.emod_eq_of_lt (by omega) h9]; omega, k⟩
theorem Cal.imp {P : Program} {w : World} {K : PySem.W.Frag} {mg : Str → Option Value} {base : Heap} {k : Nat} {x : Str} {sp sp' : Sp} (c : Cal P w K mg base k x sp) (h : ∀ vs H Q E, sp' vs H Q E → sp vs H Q E) : Cal P w K mg base k x sp' := by
  obtain ⟨f, fd, ps, F, r⟩ := c.ex
  exact ⟨f, fd, ps, F.imp h, r⟩
theorem mul_emod_r {p a b c : Int} (h : a * b % p = 1) : c * (a * b) % p = c % p := by
  rw [Int.mul_emod, h, Int.mul_one, Int.emod_emod]
/-! ### the laws' own long division, with its quotient -/
def sp__law_dividedQ (K : PySem.W.Frag) : Sp := fun vs H Q _ => ∃ (p : Int) (v1 v2 : V) (f g g0 g1 : Pol) (dg lead lg l0 : Int) (N : Nat), vs = [.int p, v1, v2] ∧ p ∈ primes ∧ TPol K H v1 f ∧ TPol K H v2 g ∧ Nf p f (cf f) ∧ Nf p g (cf g) ∧ g = g0 ++ [(dg, lead)] ∧ g = (lg, l0) :: g1 ∧ (∀ t ∈ f, ∀ s ∈ f, t.1 - s.1 < N) ∧ (∀ t ∈ g, ∀ s ∈ g, t.1 - s.1 < N) ∧ N ≤ 900 ∧
  ∀ (a : Addr) (x y : V) (H' : Hp) (q r : Pol), Same H H' → SqT K H' a [x, y] → TPol K H' x q → TPol K H' y r → Nf p q (cf q) → Nf p r (cf r) → (∀ e, (cf r e + cf (prods q g) e - cf f e) % p = 0) → (∀ t ∈ r, ∀ s ∈ r, t.1 - s.1 < dg - lg) → q.length ≤ N → Q (.ref a) H'
theorem ld_swap {p : Int} {q Q g R f : Pol} (nq : Nf p q (cf Q)) (h : ∀ e, (cf R e + cf (prods Q g) e - cf f e) % p = 0) (e : Int) : (cf R e + cf (prods q g) e - cf f e) % p = 0 := by
  have h1 : cf (prods q g) e % p = cf (prods Q g) e % p := by
    rw [cf_prods, cf_prods]
    exact conv_fst (fun x => by rw [nq.cof, Int.emod_emod]) g e
  rw [← h e]
  exact mod_sub (mod_add rfl h1) rfl
/-- what is narrower than a factor is nothing -/
theorem narrow_zero {p : Int} (hp : p ∈ primes) {h g r g0 g1 : Pol} {dg lead lg l0 : Int} (nh : Nf p h (cf h)) (ng : Nf p g (cf g)) (nr : Nf p r (cf r)) (hg : g = g0 ++ [(dg, lead)]) (hg1 : g = (lg, l0) :: g1) (he : ∀ e, conv h (cf g) e % p = cf r e % p) (w : ∀ t ∈ r, ∀ s ∈ r, t.1 - s.1 < dg - lg) : h = [] ∧ r = [] := by
  have hpr := prime_rng p hp
  by_cases z : h = []
  · refine ⟨z, nf_zero nr fun e => ?_⟩
    rw [← he e, z]
    exact Int.zero_emod _
  · exfalso
    obtain ⟨h0, dh, ch, hh⟩ := ne_snoc z
    obtain ⟨t, h1, hh1⟩ : ∃ t h1, h = t :: h1 := by
      cases h with
      | nil => exact absurd rfl z
      | cons t h1 => exact ⟨t, h1, rfl⟩
    have b1 : cf r (t.1 + lg) ≠ 0 := fun e0 => by
      have e1 := he (t.1 + lg)
      rw [e0, hh1, hg1, conv_least (t := t) (u := (lg, l0)) (by rw [← hh1]; exact nh.asc) (by rw [← hg1]; exact ng.asc)] at e1
      exact prime_nz hp (nh.rng t (by rw [hh1]; simp)).1 (nh.rng t (by rw [hh1]; simp)).2 (ng.rng (lg, l0) (by rw [hg1]; simp)).1 (ng.rng (lg, l0) (by rw [hg1]; simp)).2 (e1.trans (Int.zero_emod _))
    have b2 : cf r (dh + dg) ≠ 0 := fun e0 => by
      have e1 := he (dh + dg)
      have ah := nh.asc
      have ag := ng.asc
      rw [hh] at ah
      rw [hg] at ag
      rw [e0, hh, hg, conv_great (t := (dh, ch)) (u := (dg, lead)) ah ag] at e1
      exact prime_nz hp (nh.rng (dh, ch) (by rw [hh]; simp)).1 (nh.rng (dh, ch) (by rw [hh]; simp)).2 (ng.rng (dg, lead) (by rw [hg]; simp)).1 (ng.rng (dg, lead) (by rw [hg]; simp)).2 (e1.trans (Int.zero_emod _))
    obtain ⟨t1, m1, e1⟩ := cf_ne b1
    obtain ⟨t2, m2, e2⟩ := cf_ne b2
    have := w t2 m2 t1 m1
    have ht : t.1 ≤ dh := by
      have ah := nh.asc
      rw [hh1] at ah
      exact asc_le ah (u := (dh, ch)) (by rw [← hh1, hh]; simp)
    omega
end DR
namespace DR
open PySem PySem.Spec PyProof.Rows L2
/-! ### commuting is the same fraction f / (1 - t ** s) -/
theorem Cm.refl {p : Int} (f : Pol) (s : Int) : Cm p f s f s := fun _ => rfl
theorem Cm.symm {p : Int} {f q : Pol} {s k : Int} (h : Cm p f s q k) : Cm p q k f s := fun e => (h e).symm
theorem Cm.trans {p : Int} (hp : p ∈ primes) {f q r : Pol} {s k m : Int} (hk : k ≠ 0) (h : Cm p f s q k) (h2 : Cm p q k r m) : Cm p f s r m := by
  have hpr := prime_rng p hp
  obtain ⟨g, ng⟩ := gap_ex (p := p) (by omega) k
  let A : Pol := r ++ (moved s r).map fun t => (t.1, t.2 * -1)
  let B : Pol := f ++ (moved m f).map fun t => (t.1, t.2 * -1)
  have hA : ∀ e, cf A e = cf r e - cf r (e - s) := fun e => by
    show cf (r ++ (moved s r).map fun t => (t.1, t.2 * -1)) e = _
    rw [cf_append, cf_scale, cf_moved]
    omega
  have hB : ∀ e, cf B e = cf f e - cf f (e - m) := fun e => by
    show cf (f ++ (moved m f).map fun t => (t.1, t.2 * -1)) e = _
    rw [cf_append, cf_scale, cf_moved]
    omega
  have key : ∀ e, cf A e % p = cf B e % p := conv_cancel hp ng.self (gap_ne hpr.1 hk ng) fun e => by
    rw [gap_conv ng, gap_conv ng, hA, hA, hB, hB]
    have e1 := mod_sub (h2 e) (h2 (e - s))
    have e2 := mod_sub (h e) (h (e - m))
    rw [show cf r e - cf r (e - s) - (cf r (e - k) - cf r (e - k - s)) = cf r e - cf r (e - k) - (cf r (e - s) - cf r (e - s - k)) by rw [show e - k - s = e - s - k by omega]; omega, e1]
    rw [show cf f e - cf f (e - m) - (cf f (e - k) - cf f (e - k - m)) = cf f e - cf f (e - k) - (cf f (e - m) - cf f (e - m - k)) by rw [show e - k - m = e - m - k by omega]; omega, ← e2]
    congr 1
    rw [show e - s - m = e - m - s by omega]
    omega
  exact fun e => by rw [← hA, ← hB, key e]
/-- powers and inverses -/
theorem Cm.pw {p : Int} {f r : Pol} {s : Int} (c : Int) (nr : Nf p r (fun e => pwF (cf f) s c e)) : Cm p f s r (c * s) := fun x => by
  have tel : pwF (cf f) s c x - pwF (cf f) s c (x - s) = cf f x - cf f (x - c * s) := by
    have h1 := pw_add (cf f) s 1 c x
    have h2 := pw_add (cf f) s c 1 x
    rw [pw_one] at h1 h2
    rw [Int.one_mul] at h1
    rw [Int.add_comm 1 c] at h1
    omega
  rw [← tel]
  exact mod_sub (by rw [nr.cof, Int.emod_emod]) (by rw [nr.cof, Int.emod_emod])
theorem Cm.inv {p : Int} {f r : Pol} {s : Int} (nr : Nf p r (fun e => cf f (e + s) * -1)) : Cm p f s r (-s) := fun x => by
  rw [show (cf f x - cf f (x - -s)) = cf f (x + s) * -1 - cf f (x - s + s) * -1 by rw [show x - s + s = x by omega, show x - -s = x + s by omega]; omega]
  exact mod_sub (by rw [nr.cof, Int.emod_emod]) (by rw [nr.cof, Int.emod_emod])
/-- the shifts of what commutes -/
def Ks (p : Int) (f : Pol) (s m : Int) : Prop := ∃ q : Pol, Cm p f s q m
theorem Ks.sub {p : Int} {f : Pol} {s a b : Int} (h : Ks p f s a) (h2 : Ks p f s b) : Ks p f s (a - b) := by
  obtain ⟨q, hq⟩ := h
  obtain ⟨r, hr⟩ := h2
  refine ⟨q ++ (moved (a - b) r).map fun t => (t.1, t.2 * -1), fun e => ?_⟩
  rw [cf_append, cf_append, cf_scale, cf_scale, cf_moved, cf_moved]
  have e1 := mod_sub (hq e) (hr (e - (a - b)))
  rw [show cf f e - cf f (e - (a - b)) = cf f e - cf f (e - a) - (cf f (e - (a - b)) - cf f (e - (a - b) - b)) by rw [show e - (a - b) - b = e - a by omega]; omega, ← e1]
  congr 1
  rw [show e - s - (a - b) = e - (a - b) - s by omega]
  omega
theorem Ks.neg {p : Int} {f : Pol} {s a : Int} (h : Ks p f s a) : Ks p f s (-a) := by
  have h0 := h.sub h
  have := h0.sub h
  rw [show a - a - a = -a by omega] at this
  exact this
theorem Ks.abs {p : Int} {f : Pol} {s a : Int} (h : Ks p f s a) : Ks p f s ((a.natAbs : Nat) : Int) := by
  rcases Int.natAbs_eq a with e | e
  · rw [← e]
    exact h
  · have := h.neg
    rw [show ((a.natAbs : Nat) : Int) = -a by omega]
    exact this
theorem Ks.of_abs {p : Int} {f : Pol} {s a : Int} (h : Ks p f s ((a.natAbs : Nat) : Int)) : Ks p f s a := by
  rcases Int.natAbs_eq a with e | e
  · rw [e]
    exact h
  · rw [e]
    exact h.neg
/-- the greatest count gives the least shift -/
theorem prim_of_max {p : Int} {f : Pol} {s k c : Int} (hs : s ≠ 0) (hc : 0 < c) (hsk : s = c * k) (hk : Ks p f s k) (hmax : ∀ c' : Int, c < c' → c' ≤ (s.natAbs : Int) → s % c' = 0 → ¬ Ks p f s (s / c')) : ∀ m, Ks p f s m → k ∣ m := by
  intro m hm
  have hk0 : k ≠ 0 := fun z => hs (by rw [hsk, z, Int.mul_zero])
  have hd := sub_gcd (S := Ks p f s) (fun a b h1 h2 => h1.sub h2) m.natAbs k.natAbs hm.abs hk.abs
  obtain ⟨j, hj⟩ := Nat.gcd_dvd_right m.natAbs k.natAbs
  have hd0 : 0 < Nat.gcd m.natAbs k.natAbs := Nat.gcd_pos_of_pos_right _ (by omega)
  obtain ⟨i, hi⟩ := Nat.gcd_dvd_left m.natAbs k.natAbs
  generalize Nat.gcd m.natAbs k.natAbs = d at hd hj hd0 hi
  have hj0 : 0 < j := by
    rcases Nat.eq_zero_or_pos j with z | z
    · rw [z, Nat.mul_zero] at hj
      omega
    · exact z
  have hj1 : j = 1 := by
    by_cases z : j = 1
    · exact z
    · exfalso
      have hcj : c * 1 < c * (j : Int) := Int.mul_lt_mul_of_pos_left (by omega) hc
      have hsa : (s.natAbs : Int) = c * (j : Int) * (d : Int) := by
        rw [hsk, Int.natAbs_mul, hj]
        rw [Int.natCast_mul, Int.natCast_mul]
        rw [show ((c.natAbs : Nat) : Int) = c by omega, Int.mul_assoc, Int.mul_comm (d : Int)]
      have hle : c * (j : Int) ≤ (s.natAbs : Int) := by
        rw [hsa]
        have : c * (j : Int) * 1 ≤ c * (j : Int) * (d : Int) := Int.mul_le_mul_of_nonneg_left (by omega) (by omega)
        omega
      rcases Int.natAbs_eq s with e | e
      · rw [hsa] at e
        refine hmax (c * (j : Int)) (by omega) hle ?_ ?_
        · rw [e]
          exact Int.mul_emod_right _ _
        · rw [show s / (c * (j : Int)) = (d : Int) by rw [e]; exact Int.mul_ediv_cancel_left _ (by omega)]
          exact hd
      · rw [hsa] at e
        have e' : s = c * (j : Int) * (-(d : Int)) := by rw [e, Int.mul_neg]
        refine hmax (c * (j : Int)) (by omega) hle ?_ ?_
        · rw [e']
          exact Int.mul_emod_right _ _
        · rw [show s / (c * (j : Int)) = -(d : Int) by rw [e']; exact Int.mul_ediv_cancel_left _ (by omega)]
          exact hd.neg
  rw [hj1, Nat.mul_one] at hj
  refine Int.natAbs_dvd_natAbs.mp ⟨i, ?_⟩
  rw [hj, ← hi]
/-- what root gives -/
structure IsR (p : Int) (f : Pol) (s : Int) (q : Pol) (k c : Int) : Prop where
  nf : Nf p q (cf q)
  pos : 0 < c
  mul : s = c * k
  cm : Cm p f s q k
  prim : ∀ m, Ks p f s m → k ∣ m
theorem IsR.k0 {p : Int} {f q : Pol} {s k c : Int} (h : IsR p f s q k c) (hs : s ≠ 0) : k ≠ 0 := fun z => hs (by rw [h.mul, z, Int.mul_zero])
theorem abs_eq_of {a b : Int} (h : a ∣ b) (h' : b ∣ a) : a = b ∨ a = -b := by
  have := Nat.dvd_antisymm (Int.natAbs_dvd_natAbs.mpr h) (Int.natAbs_dvd_natAbs.mpr h')
  omega
/-- two of one fraction: the same base, up to the sign -/
theorem IsR.class {p : Int} (hp : p ∈ primes) {f f' q q' : Pol} {s s' k k' c c' : Int} (h : IsR p f s q k c) (hs : s ≠ 0) (h' : IsR p f' s' q' k' c') (hs' : s' ≠ 0) (hcm : Cm p f s f' s') : k' = k ∨ k' = -k := by
  have h1 := h'.prim k ⟨q, hcm.symm.trans hp hs h.cm⟩
  have h2 := h.prim k' ⟨q', hcm.trans hp hs' h'.cm⟩
  exact abs_eq_of h1 h2
theorem IsR.same_q {p : Int} (hp : p ∈ primes) {f f' q' r : Pol} {s s' k' c' : Int} (hs : s ≠ 0) (h' : IsR p f' s' q' k' c') (hs' : s' ≠ 0) (hcm : Cm p f s f' s') (nr : Nf p r (cf r)) (hr : Cm p f s r k') : q' = r :=
  Cm.uniq hp hs h'.nf nr (hcm.trans hp hs' h'.cm) hr
def sp_root (K : PySem.W.Frag) : Sp := fun vs H Q _ => ∃ (p : Int) (v : V) (f : Pol) (s : Int) (N : Nat), vs = [.int p, v] ∧ p ∈ primes ∧ TEff K H v f s ∧ Nf p f (cf f) ∧ s ≠ 0 ∧ s.natAbs < 2 ^ 20 ∧ (∀ t ∈ f, ∀ u ∈ f, t.1 - u.1 < N) ∧ 2 * f.length + (N + s.natAbs + 1) * 2 ≤ 1000000 ∧
  ∀ a u H' q k c, Same H H' → SqT K H' a [u, .int c] → TEff K H' u q k → IsR p f s q k c → q.length ≤ N + s.natAbs → Q (.ref a) H'
end DR
namespace DR
open PySem PySem.Spec PyProof.Rows L2
/-- an own exception class over ValueError, without own __init__ -/
structure OwnV (K : PySem.W.Frag) (mg : Str → Option Value) (x : Str) (C : Addr) : Prop where
  mg : mg x = some (.ref C)
  ex : PySem.W.excIn K C [.type "ValueError", .type "Exception", .type "BaseException", .type "object"] "ValueError.__new__" = true
  kp : PySem.W.keepIn K (.ref C) = true
  sub : PySem.W.subIn K (.ref C) (.type "BaseException") = some true
  ty : PySem.W.typeIn K (.ref C) = some (.type "type")
theorem ps_raise0V {X : Cx} {W : WX} {C : Addr} {x : Str} {p pos pos' : Pos} (Z : OwnV X.K X.mg x C) (hc : X.calm = true) (tk : Takes X W) (hg : Gl X x) (hdb : (x == ("__debug__" : Str)) = false := by decide) :
    PS X (.Raise (some (.Call (.Name x p) [] [] pos)) none pos') (fun _ σ H => W (.ref C) none σ H) :=
  ps_raise hc tk (pmk_own0 PySem.F.excBase_ValueError Z.ex Z.mg Z.kp (raises_own Z.sub Z.ty) hg hdb)
/-- root: of an effect that does not move it raises -/
def sp_rootX (K : PySem.W.Frag) (C : Addr) : Sp := fun vs H Q E => (∃ (p : Int) (v : V) (f : Pol), vs = [.int p, v] ∧ TEff K H v f 0 ∧ E (.ref C) none H) ∨ sp_root K vs H Q E
end DR
namespace L2
open PySem PySem.Spec PyProof.Rows
/-! ### an exception that is kept behind its except suite: there it is tracked -/
/-- at a lies an exception of the class cls, with the dict d -/
def Lies (cls : Value) (d : Option Addr) (a : Addr) (h : Heap) : Prop := ∃ (ob : Obj) (parts : Array Value), h.get? a = some ob ∧ Zc cls d ob ∧ ob.data = .fields parts
def HeldX (cls : Value) (d : Option Addr) (a : Addr) : HO := .ext (Lies cls d a)
theorem heldX_ok {P : Program} {w : World} {H : Hp} {h : Heap} {a : Addr} {cls : Value} {d : Option Addr} (l : Lies cls d a h) : ObjOk P w H h a (HeldX cls d a) := by
  obtain ⟨ob, parts, there, z, data⟩ := l
  refine ⟨⟨ob, parts, there, z, data⟩, ⟨ob, there⟩, ?_⟩
  rintro _ _ ⟨o, v, q, r⟩ k
  exact ⟨o, v, k o q, r⟩
section
variable {X : Cx} {pins : List (Addr × Obj)} {σ : St} {H : Hp} {s : Shared}
/-- what no one tracks, and what was not there at the entry, may be tracked from now on -/
theorem Inv.hold {a : Addr} {o : HO} (I : Inv X pins σ H s) (na : H a = none) (n0 : X.s_0.heap.get? a = none) (nl : X.env.locals ≠ a) (nc : ∀ y c, X.env.cells.lookup y = some c → c ≠ a) (np : ∀ p ∈ X.pn ++ pins, p.1 ≠ a)
    (fits : ObjOk X.prog X.w (upd H a o) s.heap a o) : Inv X pins σ (upd H a o) s := by
  have stays : ∀ {b : Addr} {u : HO}, H b = some u → upd H a o b = some u := fun {b u} e => (upd_ne (ne_of_none e na)).trans e
  have old : ∀ b u, X.s_0.heap.get? b = some u → b ≠ a := fun b u e z => by
    rw [z, n0] at e
    cases e
  have off : ∀ {b : Addr}, H b = none → b ≠ a → upd H a o b = none := fun {b} e n => (upd_ne n).trans e
  have U := I.base
  refine { I with base := { U with free := ?_, tups := ?_, frzs := ?_, tbls := ?_ }, free := off I.free nl, freeC := ?_, pin := ?_, hok := ?_ }
  · exact fun b u e n x => off (U.free b u e n x) (old b u e)
  · exact fun b xs e => stays (U.tups b xs e)
  · exact fun b u v e => stays (U.frzs b u v e)
  · exact fun b ps e => (U.tbls b ps e).imp fun _ q => stays q
  · exact fun y c e => off (I.freeC y c e) (nc y c e)
  · exact fun p hp => (I.pin p hp).imp id fun r => ⟨off r.1 (np p hp), r.2⟩
  · intro b u e
    by_cases z : b = a
    · subst z
      rw [upd_same] at e
      cases e
      exact fits
    · rw [upd_ne z] at e
      exact (I.hok b u e).stay (fun _ _ _ q => q) (fun _ q => stays q) fun _ _ q => stays q
/-- what the clause wishes of an exception that it keeps -/
def wHold (K : PySem.W.Frag) (c : Value) (i : Nat) (ts : Addr → Value → Option Addr → TS) (D : Ends) : WX := fun cls d σ H =>
  PySem.W.exmOne K cls c = some true ∧ ∀ a, H a = none → ts a cls d { nx := fun σ' H' => D.nx (σ'.set i none) (upd H' a (HeldX cls d a)), rt := fun _ _ => False, bk := fun _ _ => False, ct := fun _ _ => False } (σ.set i (some (.ref a))) H
/-- where an exception of the body arrives -/
def Arrives (X : Cx) (pins : List (Addr × Obj)) (D : Ends) (clauses : List ExceptHandler) (e : Value) (s : Shared) : Prop :=
  wpAny (model X.prog X.w) X.A (noteFrame e X.env) (fun _ s₂ => wpAny (model X.prog X.w) X.A (setFlight e none) (fun _ s₃ => wpAny (model X.prog X.w) X.A (handleBy e X.env clauses) (SP X pins D) X.xe s₃) X.xe s₂) X.xe s
end
section
variable {X : Cx} {x n : Str} {c : Value} {i : Nat} {body suite : List Stmt} {first : Stmt} {np pos pos' : Pos} {tb : WX → TS} {ts : Addr → Value → Option Addr → TS}
/-- what stands in the try is read as tb, wherever it sends its exceptions -/
def BodyAs (X : Cx) (body : List Stmt) (tb : WX → TS) : Prop :=
  ∀ (wished : WX) (q : List (Addr × Obj)) (away : Value → Shared → Prop),
    Takes (X.tr q away) wished → PassesOwn (model X.prog X.w) X.A X.env away →
      PSs (X.tr q away) body (tb wished)
theorem ps_try_hold (hs : X.stack = X.env :: X.outer) (hf : X.env.frame = some X.env.locals) (hx : X.ex = []) (nd : X.N.Nodup) (hi : X.N[i]? = some n) (hl : X.env.kindOf n = some .local) (hc : Names X x c)
    (hb : BodyAs X body tb)
    (hsu : ∀ (a : Addr) (oe : Obj) (cls : Value) (d : Option Addr) (pn : List (Addr × Obj)), Zc cls d oe → (∃ vs, oe.data = .fields vs) → PSs (X.suite a ((a, oe) :: pn)) (first :: suite) (ts a cls d)) :
    PS X (.Try body [.ExceptHandler (some (.Name x np)) (some n) (first :: suite) pos'] [] [] pos) (fun D σ H => tb (wHold X.K c i ts D) D σ H) := by
  constructor
  intro pins s σ H D I told
  have ok := I.ok
  apply wpAny_Try_except
  have ran := (hb (wHold X.K c i ts D) (X.pn ++ pins) (Arrives X pins D [.ExceptHandler (some (.Name x np)) (some n) (first :: suite) pos']) ?caught PassesOwn.looking).run [] s σ H D (I.toTry _) told
  case caught =>
    rintro _ far ⟨a, B, sI, own, σ', H', cls, d, rfl, J', grown, up, sky, na, os, bare, fits, wish⟩
    have J := Inv.ofTry J' ok
    have frames : X.A.frames = some (X.env :: X.outer) := hs ▸ ok.frames
    have sky1 : Sky B (X.env :: X.outer) a (Zc cls d) X.env.locals far.heap := hs ▸ sky
    show wpAny _ X.A (noteFrame (.ref a) X.env) _ _ _
    refine Sky.land Zc.steady frames hf sky1 fun h1 land1 up1 => ?_
    obtain ⟨_, bare1, fun1, _⟩ := id land1
    obtain ⟨o1, parts1, there1, z1, data1⟩ := land1.there
    -- it is neither a frame nor what was there before
    have noFrame : a ∉ frs (X.env :: X.outer) := fun among => by
      obtain ⟨_, o', e', notData⟩ := fun1.mem among
      rw [there1] at e'
      cases e'
      exact notData _ data1
    have nL : a ≠ X.env.locals := fun z => noFrame (List.mem_filterMap.mpr ⟨X.env, List.mem_cons_self, hf.trans (congrArg some z.symm)⟩)
    have nF : a ∉ X.fs := fun among => by
      obtain ⟨e, he, q⟩ := List.mem_filterMap.mp among
      exact noFrame (List.mem_filterMap.mpr ⟨e, List.mem_cons_of_mem _ he, q⟩)
    have nI : sI.heap.get? a = none := by
      cases e : sI.heap.get? a with
      | none => rfl
      | some o =>
        have z := grown a o e (by rw [show (X.tr (X.pn ++ pins) _).stack = X.env :: X.outer from hs]; exact noFrame)
        rw [bare1] at z
        cases z
    have n0 : X.s_0.heap.get? a = none := Option.eq_none_iff_forall_ne_some.mpr fun o e => by
      obtain ⟨_, z⟩ := J.base.there a o e (hx ▸ fun z => nomatch z)
      rw [nI] at z
      cases z
    have nC : ∀ y q, X.env.cells.lookup y = some q → q ≠ a := fun y q e z => by
      obtain ⟨_, o, ho, _⟩ := J.cell y q e
      rw [z, nI] at ho
      cases ho
    have nP : ∀ p ∈ X.pn ++ pins, p.1 ≠ a := fun p hp z => by
      have e := (J.pin p hp).1
      rw [z, nI] at e
      cases e
    have J1 : Inv X pins σ' H' { far with heap := h1 } := J.landed grown land1.1 (up.trans up1) os bare
    have looks : PySem.W.Looks (model X.prog X.w) h1 (typeOf (.ref a)) cls := fun A Q E st k q => wpAny_typeOf_ref (k _ _ there1) (z1.1.symm ▸ q)
    have same := PySem.W.exm_one (M := model X.prog X.w) J1.kIn looks fits
    refine wpAny_handleBy_cons (codeAny_handlers_test ?_) (by rintro ⟨⟩)
    have S1 := J1.suite there1 data1 na nL nF
    have named : ∀ {Q : Value → Shared → Prop} {E : Value → Shared → Prop}, Q c { far with heap := h1 } → wpAny (model X.prog X.w) (X.A.mark (some (.ref a))) (eval (.Name x np) X.env) Q E { far with heap := h1 } := fun {Q E} q => by
      rcases hc with ⟨g, dbg, m | ⟨m, v, o⟩⟩
      · exact ld_glob (X := X.suite a ((a, o1) :: (X.pn ++ pins))) S1 g m q dbg
      · exact ld_blt (X := X.suite a ((a, o1) :: (X.pn ++ pins))) S1 g m v q o dbg
    apply named
    apply same.here
    apply codeAny_handlers_suite_as
    refine HandSPX.lands_againZ land1 fun h2 land2 up2 => ?_
    obtain ⟨o2, parts2, there2, z2, data2⟩ := land2.there
    have J2 : Inv X pins σ' H' { far with heap := h2 } := J.landed grown land2.1 ((up.trans up1).trans up2) os bare
    have S2 := J2.suite there2 data2 na nL nF
    refine store_ok (X := X.suite a ((a, o2) :: (X.pn ++ pins))) (v := .ref a) S2 nd hi (.inl hl) rfl (fun s3 S3 => ?_) (.inr hl)
    refine wpAny_mono ((hsu a o2 cls d (X.pn ++ pins) z2 ⟨_, data2⟩).run [] s3 _ H' _ S3 (wish a na)) ?_ fun _ _ never => False.elim never
    intro fl s4 over
    cases fl
    case next =>
      obtain ⟨σ4, H4, S4, more⟩ := over
      refine gone_ok (X := X.suite a ((a, o2) :: (X.pn ++ pins))) S4 nd hi hl fun s5 S5 => ?_
      obtain ⟨still, free5, _⟩ := S5.pin (a, o2) (List.mem_append_left _ List.mem_cons_self)
      have J5 : Inv X pins _ H4 s5 := S5.unsuite ok
      exact ⟨_, _, J5.hold free5 n0 nL.symm nC nP (heldX_ok ⟨o2, parts2, still, z2, data2⟩), more⟩
    case ret u =>
      obtain ⟨_, _, _, _, _, z⟩ := over
      exact z.elim
    all_goals
      obtain ⟨_, _, _, z⟩ := over
      exact z.elim
  refine wpAny_mono ran ?_ fun e s1 he => he
  intro fl s1 over
  cases fl
  case next =>
    obtain ⟨σ', H', J, q⟩ := over
    exact wpAny_execs_nil ⟨σ', H', J.ofTry ok, q⟩
  case ret u =>
    obtain ⟨v, σ', H', J, r, q⟩ := over
    exact ⟨v, σ', H', J.ofTry ok, r, q⟩
  all_goals
    obtain ⟨σ', H', J, q⟩ := over
    exact ⟨σ', H', J.ofTry ok, q⟩
end
/-! ### isinstance of an exception that is held -/
def rIsH (K : PySem.W.Frag) (D : Addr) : List V → Hp → VK → Prop := fun given H Q => ∃ (a : Addr) (k : V) (kv : Value) (yes : Bool), given = [.ref a, k] ∧ H a = some (HeldX (.ref D) none a) ∧ (∀ u, RelV k u → u = kv) ∧ PySem.W.kitOne K (.ref D) kv = some yes ∧ Q (.bl yes) H
theorem call_isH {X : Cx} {D : Addr} (C : ExcC X.K D) : CallR X (.builtin "isinstance") (rIsH X.K D) := by
  intro pins s σ H given us Q I r told
  obtain ⟨a, k, kv, yes, rfl, there, is, kit, told⟩ := told
  obtain ⟨u1, u2, rfl, r1, r2⟩ := vals2 r
  cases r1
  obtain rfl := is u2 r2
  obtain ⟨⟨⟨oc, od, data, sl⟩, parts, e, ⟨zc, zd⟩, hd⟩, _, _⟩ := I.hok a _ there
  dsimp only at zc zd hd
  subst zc zd hd
  have at_a : PySem.W.InstAt s.heap a _ D none := ⟨e, rfl, rfl, trivial⟩
  exact PySem.W.kia_one (PySem.W.handS_kitx_exc C.hg C.hk C.hs C.hd C.ha C.hn C.ht C.hm) I.kIn at_a kit (fun z => nomatch z) fun tk => ⟨.bl yes, H, I.kept (t' := tk) fun _ _ z => z, rfl, told⟩
/-- .. with a tuple of classes -/
def rIsHT (K : PySem.W.Frag) (D : Addr) : List V → Hp → VK → Prop := fun given H Q => ∃ (a tp : Addr) (ks : List V) (kvs : List Value) (yes : Bool), given = [.ref a, .ref tp] ∧ H a = some (HeldX (.ref D) none a) ∧ SqT K H tp ks ∧ (∀ us, Vals ks us → us = kvs) ∧ PySem.W.kitAny K (.ref D) kvs = some yes ∧ Q (.bl yes) H
theorem call_isHT {X : Cx} {D : Addr} (C : ExcC X.K D) : CallR X (.builtin "isinstance") (rIsHT X.K D) := by
  intro pins s σ H given us Q I r told
  obtain ⟨a, tp, ks, kvs, yes, rfl, there, hT, is, kit, told⟩ := told
  obtain ⟨v1, v2, rfl, r1, r2⟩ := vals2 r
  cases r1
  cases r2
  obtain ⟨items, rel, ⟨⟨tc, td, tdata, tsl⟩, e2, tcls, n, tseq⟩, _⟩ := I.tuple hT
  obtain rfl := is items rel
  dsimp only at tcls tseq
  subst tcls tseq
  obtain ⟨⟨⟨oc, od, data, sl⟩, parts, e, ⟨zc, zd⟩, hd⟩, _, _⟩ := I.hok a _ there
  dsimp only at zc zd hd
  subst zc zd hd
  have at_a : PySem.W.InstAt s.heap a _ D none := ⟨e, rfl, rfl, trivial⟩
  exact PySem.W.kia_tup (PySem.W.handS_kitx_exc C.hg C.hk C.hs C.hd C.ha C.hn C.ht C.hm) I.kIn at_a e2 kit (fun z => nomatch z) fun tk => ⟨.bl yes, H, I.kept (t' := tk) fun _ _ z => z, rfl, told⟩
end L2
namespace L2
open PySem PySem.Spec PyProof.Rows
/-! ### own exception classes over any built-in one, whose `__init__` keeps one field -/
/-- the class at C stands over the built-in class B -/
structure Over (K : PySem.W.Frag) (B newId initId : String) (line : List Value) (C : Addr) : Prop where
  fb : ExcBaseFacts B newId initId line
  sf : StoreFacts B line "object.__setattr__" "object"
  ini : PySem.W.excInitIn K C line newId = true
  ovr : PySem.W.excOver K C line = true
  own : PySem.W.hasDictIn K C = true ∧ PySem.W.keepIn K (.ref C) = true
  slots : PySem.W.findIn K (.ref C) "__setattr__" = some (some (.builtin "object.__setattr__")) ∧ PySem.W.findIn K (.ref C) "__getattribute__" = some (some (.builtin "BaseException.__getattribute__")) ∧ PySem.W.findIn K (.ref C) "__getattr__" = some none
  sub : PySem.W.subIn K (.ref C) (.type "BaseException") = some true
  ty : PySem.W.typeIn K (.ref C) = some (.type "type")
section
variable {X : Cx} {pins : List (Addr × Obj)} {σ : St} {H : Hp} {s : Shared} {a C : Addr} {f : Str} {y : V} {u : Value} {Q : Unit → Shared → Prop} {E : Value → Shared → Prop} {A : Around} {B newId initId : String} {line : List Value}
/-- the first field of an exception that is being made -/
theorem first_field (T : Over X.K B newId initId line C) (I : Inv X pins σ H s) (e : H a = some (exo a C none)) (hno : PySem.W.findIn X.K (.ref C) f = some none) (ry : RelV y u)
    (on : ∀ q s1, H q = none → q ≠ a → Inv X pins σ (upd (upd H q (exd q [(f, y)])) a (exo a C (some q))) s1 → Q () s1) : wpAny (model X.prog X.w) A (setAttr (.ref a) f u) Q E s := by
  have ⟨t1, ho⟩ := exo_at I.hok e
  have tk : PySem.W.takerIn X.K C f = some none := by
    unfold PySem.W.takerIn
    rw [hno, Option.bind_some]
  obtain ⟨hp, g, d, t, os⟩ := s
  have here : PySem.W.InstAt hp a { cls := .ref C, dict := none, data := .fields #[.ref t1, .none, .none, .none, .bool false, .none] } C none := ⟨ho, rfl, rfl, trivial⟩
  refine PySem.W.set_plain I.kIn here T.slots.1 ?_
  refine PySem.W.osa_openX T.sf I.kIn here T.ovr tk fun b => ?_
  obtain ⟨cd, hc, hd⟩ := PySem.W.any_some T.own.1
  refine wpAny_bind (wpAny_pure (wpAny_bind (PySem.W.instanceDict_exc (t := t1) (c2 := .none) ho (PySem.W.looks_clsIn I.kIn hc) hd ?_)))
  have ha : a < hp.objs.size := Heap.lt_size ho
  have ne : hp.objs.size ≠ a := Nat.ne_of_gt ha
  have ho1 : (hp.push (PySem.W.dictOf [] 0)).get? a = some _ := Heap.get?_push_of_some _ ho
  -- the heap with the dict laid and tied to the exception
  generalize eG : (hp.push (PySem.W.dictOf [] 0)).update a (fun o => { o with dict := some hp.objs.size }) = G
  have Ga : G.get? a = some { cls := .ref C, dict := some hp.objs.size, data := .fields #[.ref t1, .none, .none, .none, .bool false, .none] } := by
    rw [← eG]
    exact Heap.get?_update_self _ ho1 rfl
  have Gk : ∀ b o, b ≠ a → hp.get? b = some o → G.get? b = some o := fun b o hb q => by
    rw [← eG]
    exact (Heap.get?_update_ne _ _ _ _ hb).trans (Heap.get?_push_of_some _ q)
  have Gd : G.get? hp.objs.size = some (PySem.W.dictOf [] 0) := by
    rw [← eG]
    exact (Heap.get?_update_ne _ _ _ _ ne).trans (Heap.get?_push_at rfl rfl)
  show wpAny _ _ (Builtin.ObjectAttr.storeInDict hp.objs.size _ f u) _ _ ⟨G, g, d, _, os⟩
  refine HandSPX.store_in_new ⟨_, #[], _, Gd, rfl, fun x hx => absurd hx (by simp), fun _ => rfl⟩ fun h' tk' hn same => ?_
  have k : ∀ b o, b ≠ a → hp.get? b = some o → h'.get? b = some o := fun b o hb q => (same.2 b (Nat.ne_of_lt (Heap.lt_size q))).trans (Gk b o hb q)
  have hx : h'.get? a = some _ := (same.2 a ne.symm).trans Ga
  have hnd : H hp.objs.size = none := I.hok.fresh (Nat.le_refl _)
  have off : ∀ {b : Addr} {o : Obj}, hp.get? b = some o → b ≠ hp.objs.size := fun {b o} q => Nat.ne_of_lt (Heap.lt_size q)
  have apart : ∀ {b : Addr}, H b = none → b ≠ a := fun {b} n z => by
    rw [z, e] at n
    cases n
  have only : ∀ {b : Addr} {v : HO}, H b = some v → exo a C none ≠ v → upd (upd H hp.objs.size (exd hp.objs.size [(f, y)])) a (exo a C (some hp.objs.size)) b = some v := fun {b v} q z => by
    rw [upd_ne (at_ne e q z), upd_ne (ne_of_none q hnd)]
    exact q
  have step : Un X.fs [] H (upd (upd H hp.objs.size (exd hp.objs.size [(f, y)])) a (exo a C (some hp.objs.size))) hp h' := by
    constructor
    · exact fun b o q n _ _ => k b o (apart n) q
    · exact fun b o q n _ _ => ⟨o.slots, k b o (apart n) q⟩
    · intro b o q n _
      rw [upd_ne (apart n), upd_ne (off q)]
      exact n
    · intro b o q _
      by_cases hb : b = a
      · subst hb
        exact ⟨_, hx⟩
      · exact ⟨o, k b o hb q⟩
    · exact fun b xs q => only q exo_tup
    · exact fun b o v q => only q exo_frz
    · exact fun b ps q => ⟨#[], (only q exo_tbl).trans (by simp)⟩
  refine on hp.objs.size _ hnd ne (I.un (t' := tk') step fun b o q => ?_)
  by_cases hb : b = a
  · subst hb
    rw [upd_same] at q
    cases q
    exact exo_ok hx
  rw [upd_ne hb] at q
  by_cases hd2 : b = hp.objs.size
  · subst hd2
    rw [upd_same] at q
    cases q
    exact exd_ok hn (relO_put (fs := []) ry fun _ => True.intro)
  rw [upd_ne hd2] at q
  refine (I.hok b o q).stay (fun c v hc z => ?_) (fun c hc => only hc exo_own) (fun c xs hc => only hc exo_tup)
  have hca : c ≠ a := by
    rcases hc with rfl | hc
    · exact hb
    · exact at_ne e hc exo_own
  exact k c v hca z
end
/-- self.f = e, the first one -/
def tFirst (B newId initId : String) (line : List Value) (K : PySem.W.Frag) (f : Str) (to te : TE) : TS := fun D σ H => te σ H fun y H1 => to σ H1 fun x H2 => ∃ a C : Addr, x = .ref a ∧ Over K B newId initId line C ∧ PySem.W.findIn K (.ref C) f = some none ∧
  H2 a = some (exo a C none) ∧ ∀ dx, H2 dx = none → dx ≠ a → D.nx σ (upd (upd H2 dx (exd dx [(f, y)])) a (exo a C (some dx)))
/-- what such an `__init__` does -/
def sp_first (C : Addr) (f : Str) : Sp := fun vs H Q _ => ∃ (a : Addr) (v : V), vs = [.ref a, v] ∧ H a = some (exo a C none) ∧ ∀ dx, H dx = none → dx ≠ a → Q .non (upd (upd H dx (exd dx [(f, v)])) a (exo a C (some dx)))
/-- C(e): the exception with its field -/
def tMade (C : Addr) (f : Str) (ta : TA) : St → Hp → XK → Prop := fun σ H Q => ta σ H fun vs H1 => ∃ v, vs = [v] ∧ ∀ d, H1 d = none → Q (.ref C) (some d) (upd H1 d (.xd [(f, v)]))
/-- an own exception class x over B with one field f, kept by its `__init__` -/
structure OwnF (P : Program) (w : World) (K : PySem.W.Frag) (mg : Str → Option Value) (base : Heap) (B newId initId : String) (line : List Value) (x f : Str) (C : Addr) : Prop where
  over : Over K B newId initId line C
  gl : mg x = some (.ref C)
  no : PySem.W.findIn K (.ref C) f = some none
  init : ∃ (fI : Addr) (fd : FuncData) (ps : List Str), PySem.W.findIn K (.ref C) "__init__" = some (some (.ref fI)) ∧ PySem.W.typeIn K (.ref fI) = some (.type "function") ∧ FnOk P w K mg base CX0 1 fI fd ps (sp_first C f) ∧ Binds K fd ps []
section
variable {X : Cx} {o e : Expr} {es : List Expr} {to te : TE} {ta : TA} {f : Str} {p p' pos pos' : Pos} {B newId initId : String} {line : List Value}
theorem ps_first (ho : PE X o to) (he : PE X e te) (hs : swapsWith e (some (.Attribute o f p')) pos.line X.env = pure false := by rfl) : PS X (.Assign [.Attribute o f p'] e pos) (tFirst B newId initId line X.K f to te) := by
  constructor
  intro pins s σ H D I h
  refine plainObj_wpAny_Assign_Attribute (thn (he.run pins s σ H _ I h) ?_) hs
  rintro v s1 ⟨y, H1, I1, r1, q1⟩
  refine thn (ho.run pins s1 σ H1 _ I1 q1) ?_
  rintro u s2 ⟨x, H2, I2, r2, a, C, rfl, T, hno, ea, q⟩
  obtain rfl : u = Value.ref a := r2
  exact first_field T I2 ea hno r1 fun dx s' n ne J => ⟨σ, _, J, q dx n ne⟩
theorem pmk_first {C : Addr} {x : Str} {j : Nat} (T : OwnF X.prog X.w X.K X.mg X.base B newId initId line x f C) (hr : Room j X.A) (h2 : 2 ≤ j) (hg : Gl X x) (ha : PA X (e :: es) ta)
    (he : starEach (e :: es) X.env = (false, eval e X.env) :: starEach es X.env := by rfl) (hpl : (backTo pos (starEach es X.env)).any (·.1) = false := by rfl) (hdb : (x == ("__debug__" : Str)) = false := by decide) :
    PMk X (.Call (.Name x p) (e :: es) [] pos) (tMade C f ta) := by
  intro pins s σ H Q I h
  have Z := T.over
  obtain ⟨fI, fd, ps, iC, tI, F1, hb⟩ := T.init
  refine wpAny_Call_Name_kw (ld_glob I hg T.gl ?_ hdb)
  refine PySem.W.callWith_K (h₀ := X.base) I.ok.mod.kin Z.own.2 (thn (ha.run pos pins s σ H _ I h) ?_) he hpl
  rintro us s1 ⟨vs, H1, I1, r1, v, rfl, q1⟩
  refine ⟨I1.kIn, ?_⟩
  show wpAny _ _ (call (.ref C) us) _ _ _
  obtain ⟨v', rfl, rv⟩ : ∃ v', us = [v'] ∧ RelV v v' := by
    cases r1 with
    | cons rv rn =>
      cases rn
      exact ⟨_, rfl, rv⟩
  obtain ⟨nm, N, qn, bs, bm, hdct, sn, sub, ab, col, dd, k0, k1, k2, k3, k5, hC, hT⟩ := PySem.W.excInit_of I1.kIn Z.ini
  obtain ⟨hp, g, dr, tk, os⟩ := s1
  have above : hp.objs.size ≤ hp.objs.size + 1 := Nat.le_succ _
  have hn : H1 (hp.objs.size + 1) = none := I1.hok.fresh above
  have grown : ∀ b o, hp.get? b = some o → ((hp.push (PySem.W.kdv_tup [v'])).push (PySem.HandSPX.excO C hp.objs.size)).get? b = some o := fun b o q => Heap.get?_push_of_some _ (Heap.get?_push_of_some _ q)
  have there : ((hp.push (PySem.W.kdv_tup [v'])).push (PySem.HandSPX.excO C hp.objs.size)).get? (hp.objs.size + 1) = some (PySem.HandSPX.excO C hp.objs.size) := by heap_get
  have I2 := I1.laid (t' := tk) (a := hp.objs.size + 1) (o := exo (hp.objs.size + 1) C none) grown above (exo_ok there)
  have told : sp_first C f [.ref (hp.objs.size + 1), v] (upd H1 (hp.objs.size + 1) (exo (hp.objs.size + 1) C none))
      (fun r H2 => r = .non ∧ ∃ d : Addr, H1 d = none ∧ H2 = upd (upd (upd H1 (hp.objs.size + 1) (exo (hp.objs.size + 1) C none)) d (exd d [(f, v)])) (hp.objs.size + 1) (exo (hp.objs.size + 1) C (some d)) ∧ d ≠ hp.objs.size + 1) (fun _ _ _ => False) :=
    ⟨_, _, rfl, upd_same, fun dx n ne => ⟨rfl, dx, by rwa [upd_ne ne] at n, rfl, ne⟩⟩
  have args : Vals [V.ref (hp.objs.size + 1), v] [Value.ref (hp.objs.size + 1), v'] := .cons rfl (.cons rv .nil)
  have many : [Value.ref (hp.objs.size + 1), v'].length = ps.length := args.length.symm.trans (F1.len _ _ _ _ told)
  have small : [v'].length ≤ sizeLine := by
    rw [sizeLine_eq]
    exact (by decide : 1 ≤ 16777216)
  refine wpAny_call (PySem.HandSPX.call_own Z.fb hT hC (PySem.W.looks_findIn I1.kIn iC) (fun self => PySem.W.bind_fn I1.kIn self tI) small
    (codeAny_mono (F1.run _ X.stack _ _ ⟨[Value.ref (hp.objs.size + 1), v'], []⟩ [Value.ref (hp.objs.size + 1), v'] _ _ (fun _ _ _ => False) ((hr.mono h2).make C [v'] []) (I2.env0.make C [v'] [])
      (by have z := hb _ [Value.ref (hp.objs.size + 1), v'] I2.kIn many; rwa [List.append_nil] at z) args told) ?_))
  rintro (er | fl) s' over
  · exact over.elim
  cases fl
  case ret ru =>
    obtain ⟨r, H2, os2, bare2, un2, hok2, rr, rfl, d, hd1, rfl, hne⟩ := over
    obtain ⟨h2, g2, d2, t2, os'⟩ := s'
    refine ⟨rr, ?_⟩
    have e1 : upd (del (upd (upd (upd H1 (hp.objs.size + 1) (exo (hp.objs.size + 1) C none)) d (exd d [(f, v)])) (hp.objs.size + 1) (exo (hp.objs.size + 1) C (some d))) (hp.objs.size + 1)) d (.xd [(f, v)]) = upd H1 d (.xd [(f, v)]) := by
      funext b
      by_cases hbd : b = d
      · rw [hbd, upd_same, upd_same]
      · rw [upd_ne hbd, upd_ne hbd]
        by_cases hba : b = hp.objs.size + 1
        · rw [hba, del_same, hn]
        · rw [del_ne hba, upd_ne hba, upd_ne hbd, upd_ne hba]
    exact mk_end (raises_own Z.sub Z.ty) I1 above grown un2 hok2 os2 bare2 upd_same ((upd_ne hne).trans upd_same) hd1 (by rw [e1]; exact q1 d hd1)
  all_goals exact over.elim
/-- raise C(e) -/
theorem ps_raiseF {C : Addr} {W : WX} {x : Str} {j : Nat} (T : OwnF X.prog X.w X.K X.mg X.base B newId initId line x f C) (hc : X.calm = true) (tk : Takes X W) (hr : Room j X.A) (h2 : 2 ≤ j) (hg : Gl X x) (ha : PA X [e] ta)
    (hdb : (x == ("__debug__" : Str)) = false := by decide) (he : starEach (e :: []) X.env = (false, eval e X.env) :: starEach [] X.env := by rfl) (hpl : (backTo pos (starEach [] X.env)).any (·.1) = false := by rfl) :
    PS X (.Raise (some (.Call (.Name x p) [e] [] pos)) none pos') (fun _ σ H => tMade C f ta σ H fun cls d H' => W cls d σ H') :=
  ps_raise hc tk (pmk_first T hr h2 hg ha he hpl hdb)
/-- x.f, x an exception that is held -/
def tHeldF (f : Str) (C : Addr) (te : TE) : TE := fun σ H Q => te σ H fun x H1 => ∃ (a d : Addr) (v : V), x = .ref a ∧ H1 a = some (HeldX (.ref C) (some d) a) ∧ H1 d = some (.xd [(f, v)]) ∧ Q v H1
theorem pe_heldF {C : Addr} (T : Over X.K B newId initId line C) (hno : PySem.W.findIn X.K (.ref C) f = some none) (he : PE X e te) (hb : attributeBase e f X.env (eval e X.env) = eval e X.env := by rfl) : PE X (.Attribute e f pos) (tHeldF f C te) := by
  constructor
  intro pins s σ H Q I h
  refine attr_of hb (thn (he.run pins s σ H _ I h) ?_)
  rintro u s1 ⟨x, H1, I1, rx, a, d, v, rfl, ea, ed, q⟩
  obtain rfl : u = Value.ref a := rx
  obtain ⟨⟨⟨oc, od, data, sl⟩, parts, there, ⟨zc, zd⟩, hdat⟩, _, _⟩ := I1.hok a _ ea
  dsimp only at zc zd hdat
  subst zc zd hdat
  obtain ⟨mA, hns, rel⟩ : ObjOk X.prog X.w H1 s1.heap d (.xd [(f, v)]) := I1.hok d _ ed
  obtain ⟨ob, hob, look⟩ := lookIn_ns hns
  have l : List.lookup f [(f, v)] = some v := by simp [List.lookup]
  obtain ⟨u, hu, ru⟩ := RelO.some_of (v := v) (o := mA f) (by rw [← l]; exact rel f)
  have at_a : PySem.W.InstAt s1.heap a _ C (some ob) := ⟨there, rfl, rfl, hob⟩
  exact HandSPX.exc_get I1.kIn at_a T.slots.2.1 T.slots.2.2 T.sub (PySem.W.findObj_own T.own.1 hno rfl (by rw [look, hu])) (handed_of ru) ⟨v, H1, I1.tok _, ru, q⟩
end
end L2
namespace L2
open PySem PySem.Spec PyProof.Rows
/-! ### isinstance of an exception that is held with its dict -/
theorem kit_heldD {K : PySem.W.Frag} {C a : Addr} {ob : Obj} {od : Option Obj} (E : ExcC K C) : PySem.W.KitX K (.ref a) (.ref C) (fun h => PySem.W.InstAt h a ob C od) := by
  have known : (PySem.W.clsIn K C).isSome = true := by
    obtain ⟨cd, e, _⟩ := PySem.W.any_some E.hd
    rw [e]
    rfl
  exact PySem.W.kitx_exc known E.hg E.hk E.hs E.ha E.hn E.ht E.hm
/-- the held exception at a, with its dict at d -/
theorem held_at {X : Cx} {pins : List (Addr × Obj)} {σ : St} {H : Hp} {s : Shared} {a d C : Addr} {fs : List (Str × V)} (I : Inv X pins σ H s) (ea : H a = some (HeldX (.ref C) (some d) a)) (ed : H d = some (.xd fs)) : ∃ ob od, PySem.W.InstAt s.heap a ob C (some od) := by
  obtain ⟨⟨⟨oc, ot, data, sl⟩, parts, there, ⟨zc, zd⟩, hdat⟩, _, _⟩ := I.hok a _ ea
  dsimp only at zc zd hdat
  subst zc zd hdat
  obtain ⟨mA, hns, _⟩ : ObjOk X.prog X.w H s.heap d (.xd fs) := I.hok d _ ed
  obtain ⟨od, hod, _⟩ := lookIn_ns hns
  exact ⟨_, od, there, rfl, rfl, hod⟩
def rIsD (K : PySem.W.Frag) (C : Addr) : List V → Hp → VK → Prop := fun given H Q => ∃ (a d : Addr) (fs : List (Str × V)) (k : V) (kv : Value) (yes : Bool), given = [.ref a, k] ∧ H a = some (HeldX (.ref C) (some d) a) ∧ H d = some (.xd fs) ∧ (∀ u, RelV k u → u = kv) ∧ PySem.W.kitOne K (.ref C) kv = some yes ∧ Q (.bl yes) H
theorem call_isD {X : Cx} {C : Addr} (E : ExcC X.K C) : CallR X (.builtin "isinstance") (rIsD X.K C) := by
  rintro pins s σ H given us Q I r ⟨a, d, fs, k, kv, yes, rfl, ea, ed, is, kit, told⟩
  obtain ⟨u1, u2, rfl, r1, r2⟩ := vals2 r
  cases r1
  obtain rfl := is u2 r2
  obtain ⟨ob, od, inst⟩ := held_at I ea ed
  exact PySem.W.kia_one (kit_heldD E) I.kIn inst kit (fun z => nomatch z) fun tk => ⟨.bl yes, H, I.kept (t' := tk) fun _ _ z => z, rfl, told⟩
def rIsTD (K : PySem.W.Frag) (C : Addr) : List V → Hp → VK → Prop := fun given H Q => ∃ (a d tp : Addr) (fs : List (Str × V)) (ks : List V) (kvs : List Value) (yes : Bool), given = [.ref a, .ref tp] ∧ H a = some (HeldX (.ref C) (some d) a) ∧ H d = some (.xd fs) ∧ SqT K H tp ks ∧ (∀ us, Vals ks us → us = kvs) ∧ PySem.W.kitAny K (.ref C) kvs = some yes ∧ Q (.bl yes) H
theorem call_isTD {X : Cx} {C : Addr} (E : ExcC X.K C) : CallR X (.builtin "isinstance") (rIsTD X.K C) := by
  rintro pins s σ H given us Q I r ⟨a, d, tp, fs, ks, kvs, yes, rfl, ea, ed, hT, is, kit, told⟩
  obtain ⟨v1, v2, rfl, r1, r2⟩ := vals2 r
  cases r1
  cases r2
  obtain ⟨items, rel, ⟨⟨tc, td, tdata, tsl⟩, e2, tcls, n, tseq⟩, _⟩ := I.tuple hT
  obtain rfl := is items rel
  dsimp only at tcls tseq
  subst tcls tseq
  obtain ⟨ob, od, inst⟩ := held_at I ea ed
  exact PySem.W.kia_tup (kit_heldD E) I.kIn inst e2 kit (fun z => nomatch z) fun tk => ⟨.bl yes, H, I.kept (t' := tk) fun _ _ z => z, rfl, told⟩
end L2
namespace DR
open PySem PySem.Spec PyProof.Rows L2
theorem new_at {H : Hp} {p : Addr} {o : HO} (_ : H p = none) : upd H p o p = some o := upd_same
/-- the class TooLong -/
abbrev LimF (P : Program) (w : World) (K : PySem.W.Frag) (mg : Str → Option Value) (base : Heap) (C : Addr) : Prop := OwnF P w K mg base "ArithmeticError" "ArithmeticError.__new__" "ArithmeticError.__init__" [.type "ArithmeticError", .type "Exception", .type "BaseException", .type "object"] "TooLong" "limit" C
/-- what isinstance says of a TooLong -/
structure IsL (K : PySem.W.Frag) (mg : Str → Option Value) (C CD : Addr) : Prop where
  ae : mg "ArithmeticError" = none
  le : mg "LookupError" = none
  ve : mg "ValueError" = none
  tz : mg "DivisionByZero" = some (.ref CD)
  k1 : PySem.W.kitOne K (.ref C) (.type "ArithmeticError") = some true
  k2 : PySem.W.kitAny K (.ref C) [.ref CD, .type "LookupError", .type "ValueError"] = some false
  ec : ExcC K C
  em : PySem.W.exmOne K (.ref C) (.ref C) = some true
end DR
/-! ### methods of own classes, by their names; a reader of tokens -/
namespace DR
open PySem PySem.Spec PyProof.Rows L2
structure MetC (CX : CXT) (P : Program) (w : World) (K : PySem.W.Frag) (mg : Str → Option Value) (base : Heap) (C : Addr) (k : Nat) (m : Str) (sp : Sp) : Prop where
  ex : ∃ (f : Addr) (fd : FuncData) (ps : List Str), FnOk P w K mg base CX k f fd ps sp ∧ Meth K C m f ∧ Binds K fd ps []
section
variable {CX : CXT} {P : Program} {w : World} {K : PySem.W.Frag} {mg : Str → Option Value} {base : Heap} {C : Addr} {k : Nat} {m : Str} {sp : Sp}
noncomputable def MetC.f (c : MetC CX P w K mg base C k m sp) : Addr := c.ex.choose
noncomputable def MetC.fd (c : MetC CX P w K mg base C k m sp) : FuncData := c.ex.choose_spec.choose
noncomputable def MetC.ps (c : MetC CX P w K mg base C k m sp) : List Str := c.ex.choose_spec.choose_spec.choose
theorem MetC.ok (c : MetC CX P w K mg base C k m sp) : FnOk P w K mg base CX k c.f c.fd c.ps sp := c.ex.choose_spec.choose_spec.choose_spec.1
theorem MetC.hm (c : MetC CX P w K mg base C k m sp) : Meth K C m c.f := c.ex.choose_spec.choose_spec.choose_spec.2.1
theorem MetC.b (c : MetC CX P w K mg base C k m sp) : Binds K c.fd c.ps [] := c.ex.choose_spec.choose_spec.choose_spec.2.2
end
/-- where a method stands -/
structure DfM (K : PySem.W.Frag) (C : Addr) (m q : Str) (st : Stmt) : Prop where
  ex : ∃ (f : Addr) (fd : FuncData), Fun K m q st f fd ∧ Meth K C m f
theorem met_of {CX : CXT} {P : Program} {w : World} {K : PySem.W.Frag} {mg : Str → Option Value} {base : Heap} {C : Addr} {k : Nat} {m q : Str} {st : Stmt} {ps : List Str} {sp : Sp} (D : DfM K C m q st)
    (b : ∀ (kV doc pm : Value) (an : Option Addr) (cdv ct : Value) (us : List Value), us.length = ps.length → bindArgs (PySem.W.fnOf m q (defArgs st) (defBody st) (defScope st) .none kV doc pm an cdv ct) ⟨us, []⟩ = pure (ps.zip us))
    (ok : ∀ f fd, Fun K m q st f fd → FnOk P w K mg base CX k f fd ps sp) : MetC CX P w K mg base C k m sp := by
  obtain ⟨f, fd, F, hm⟩ := D.ex
  exact ⟨f, fd, ps, ok f fd F, hm, F.binds b⟩
/-- a method that calls itself: a level for each depth -/
theorem met_rec {CX : CXT} {P : Program} {w : World} {K : PySem.W.Frag} {mg : Str → Option Value} {base : Heap} {C : Addr} {m q : Str} {st : Stmt} {ps : List Str} (c : Nat) {sp : Nat → Sp} (D : DfM K C m q st)
    (b : ∀ (kV doc pm : Value) (an : Option Addr) (cdv ct : Value) (us : List Value), us.length = ps.length → bindArgs (PySem.W.fnOf m q (defArgs st) (defBody st) (defScope st) .none kV doc pm an cdv ct) ⟨us, []⟩ = pure (ps.zip us))
    (h0 : ∀ vs H Q E, ¬ sp 0 vs H Q E)
    (step : ∀ k, MetC CX P w K mg base C (k + c) m (sp k) → ∀ f fd, Fun K m q st f fd → FnOk P w K mg base CX (k + c + 1) f fd ps (sp (k + 1))) : ∀ k, MetC CX P w K mg base C (k + c) m (sp k)
  | 0 => by
    obtain ⟨f, fd, F, hm⟩ := D.ex
    exact ⟨f, fd, ps, ⟨fun vs H Q E h => absurd h (h0 vs H Q E), fun A outer s H args us vs Q E _ _ _ _ h => absurd h (h0 vs H Q E)⟩, hm, F.binds b⟩
  | k + 1 => by
    obtain ⟨f, fd, F, hm⟩ := D.ex
    have := step k (met_rec c D b h0 step k) f fd F
    exact ⟨f, fd, ps, (show k + c + 1 = k + 1 + c by omega) ▸ this, hm, F.binds b⟩
/-- the class that makes instances -/
structure MkF (P : Program) (w : World) (K : PySem.W.Frag) (mg : Str → Option Value) (base : Heap) (x : Str) (C : Addr) (k : Nat) (sp : Sp) : Prop where
  ex : ∃ (f : Addr) (fd : FuncData) (ps : List Str), Mk K C f ∧ FnOk P w K mg base CX0 k f fd ps sp ∧ Binds K fd ps []
  gl : mg x = some (.ref C)
section
variable {X : Cx} {W : WX} {C : Addr} {k j : Nat} {m x : Str} {sp : Sp} {o e : Expr} {es : List Expr} {ta : TE} {t : TA} {pos apos p : Pos} {E : XK}
theorem pe_mk_ (c : MkF X.prog X.w X.K X.mg X.base x C k sp) (hr : Room j X.A) (hk : k + 1 ≤ j) (hg : Gl X x) (ha : PA X (e :: es) t)
    (h1 : (x == ("__debug__" : Str)) = false := by decide) (h2 : starEach (e :: es) X.env = (false, eval e X.env) :: starEach es X.env := by rfl) (h3 : (backTo pos (starEach es X.env)).any (·.1) = false := by rfl) :
    PE X (.Call (.Name x p) (e :: es) [] pos) (tMake C sp [] E0 t) := by
  obtain ⟨f, fd, ps, M, F, b⟩ := c.ex
  exact pe_make M F (hr.mono hk) hg c.gl b .nil pass0 ha h1 h2 h3
end
/-! ### the reader's fields -/
def rdF (a : Addr) (s : RS) : List (Str × V) := [("tokens", .ref a), ("at", .int s.p), ("instructions", .int s.n), ("repeats", .int s.r)]
theorem nmR : (("at" : Str) == "tokens") = false ∧ (("instructions" : Str) == "tokens") = false ∧ (("instructions" : Str) == "at") = false ∧ (("repeats" : Str) == "tokens") = false ∧ (("repeats" : Str) == "at") = false ∧ (("repeats" : Str) == "instructions") = false := by decide +kernel
section
variable (a : Addr) (s : RS)
theorem rd_tokens : (rdF a s).lookup ("tokens" : Str) = some (.ref a) := by
  unfold rdF
  simp [List.lookup]
theorem rd_at : (rdF a s).lookup ("at" : Str) = some (.int s.p) := by
  unfold rdF
  simp only [List.lookup, nmR.1]
  simp
theorem rd_instructions : (rdF a s).lookup ("instructions" : Str) = some (.int s.n) := by
  unfold rdF
  simp only [List.lookup, nmR.2.1, nmR.2.2.1]
  simp
theorem rd_repeats : (rdF a s).lookup ("repeats" : Str) = some (.int s.r) := by
  unfold rdF
  simp only [List.lookup, nmR.2.2.2.1, nmR.2.2.2.2.1, nmR.2.2.2.2.2]
  simp
theorem rd_no {m : Str} (h : (m == ("tokens" : Str)) = false ∧ (m == ("at" : Str)) = false ∧ (m == ("instructions" : Str)) = false ∧ (m == ("repeats" : Str)) = false) : (rdF a s).lookup m = none := by
  unfold rdF
  simp only [List.lookup, h.1, h.2.1, h.2.2.1, h.2.2.2]
theorem nmR2 : ¬ ("tokens" : Str) = "at" ∧ ¬ ("tokens" : Str) = "instructions" ∧ ¬ ("tokens" : Str) = "repeats" ∧ ¬ ("at" : Str) = "instructions" ∧ ¬ ("at" : Str) = "repeats" ∧ ¬ ("instructions" : Str) = "repeats" := by decide +kernel
theorem rd_put_at (z : Nat) : putF "at" (.int z) (rdF a s) = rdF a ⟨z, s.n, s.r⟩ := by
  unfold rdF
  show (if ("tokens" : Str) = "at" then _ else (("tokens" : Str), V.ref a) :: (if ("at" : Str) = "at" then _ else _)) = _
  rw [if_neg nmR2.1, if_pos rfl]
theorem rd_put_n (z : Nat) : putF "instructions" (.int z) (rdF a s) = rdF a ⟨s.p, z, s.r⟩ := by
  unfold rdF
  show (if ("tokens" : Str) = "instructions" then _ else (("tokens" : Str), V.ref a) :: (if ("at" : Str) = "instructions" then _ else (("at" : Str), V.int s.p) :: (if ("instructions" : Str) = "instructions" then _ else _))) = _
  rw [if_neg nmR2.2.1, if_neg nmR2.2.2.2.1, if_pos rfl]
theorem rd_put_r (z : Nat) : putF "repeats" (.int z) (rdF a s) = rdF a ⟨s.p, s.n, z⟩ := by
  unfold rdF
  show (if ("tokens" : Str) = "repeats" then _ else (("tokens" : Str), V.ref a) :: (if ("at" : Str) = "repeats" then _ else (("at" : Str), V.int s.p) :: (if ("instructions" : Str) = "repeats" then _ else (("instructions" : Str), V.int s.n) :: (if ("repeats" : Str) = "repeats" then _ else _)))) = _
  rw [if_neg nmR2.2.2.1, if_neg nmR2.2.2.2.2.1, if_neg nmR2.2.2.2.2.2, if_pos rfl]
end
/-- a reader stands at p, its tokens at a -/
structure Rdr (C : Addr) (H : Hp) (p a : Addr) (T : List Str) (s : RS) : Prop where
  ob : ∃ dx, H p = some (.ins C dx (rdF a s))
  tk : H a = some (.lst (T.map V.str))
  le : s.p ≤ T.length
  few : s.n ≤ 100
  big : T.length ≤ 100000
theorem Rdr.ne {C : Addr} {H : Hp} {p a : Addr} {T : List Str} {s : RS} (R : Rdr C H p a T s) : p ≠ a := by
  obtain ⟨dx, e⟩ := R.ob
  exact ne_of e R.tk (by intro z; cases z)
theorem Rdr.same {C : Addr} {H H' : Hp} {p a : Addr} {T : List Str} {s : RS} (e : Same H H') (R : Rdr C H p a T s) : Rdr C H' p a T s := by
  obtain ⟨dx, h⟩ := R.ob
  exact ⟨⟨dx, e _ _ h⟩, e _ _ R.tk, R.le, R.few, R.big⟩
/-- what the classes say: a reader's, and that of its error -/
structure ClR (K : PySem.W.Frag) (mg : Str → Option Value) (C : Addr) : Prop where
  cl : Cls K C
  nt : NoAttr K C "tokens"
  na : NoAttr K C "at"
  ni : NoAttr K C "instructions"
  nr : NoAttr K C "repeats"
  gl : mg "Reader" = some (.ref C)
abbrev TxtF (P : Program) (w : World) (K : PySem.W.Frag) (mg : Str → Option Value) (base : Heap) (C : Addr) : Prop := OwnF P w K mg base "ValueError" "ValueError.__new__" "ValueError.__init__" [.type "ValueError", .type "Exception", .type "BaseException", .type "object"] "InvalidText" "position" C
/-- the text is refused at a token -/
def BadE (CI : Addr) (E : XK) (p : Addr) (H : Hp) (k : Nat) : Prop := ∀ d H', Kp p H H' → H' d = none → E (.ref CI) (some d) (upd H' d (.xd [("position", .int k)]))
theorem BadE.kp {CI : Addr} {E : XK} {p : Addr} {H H1 : Hp} {k : Nat} (b : BadE CI E p H k) (h : Kp p H H1) : BadE CI E p H1 k := fun d H' h' n => b d H' (h.trans h') n
def sp_reader (C : Addr) : Sp := fun vs H Q _ => ∃ (p dx a : Addr), vs = [.ref p, .ref a] ∧ H p = some (.ins C dx []) ∧ ∀ H', Kp p H H' → H' p = some (.ins C dx (rdF a ⟨0, 0, 0⟩)) → Q .non H'
def sp_has_ended (C : Addr) : Sp := fun vs H Q _ => ∃ (p a : Addr) (T : List Str) (s : RS), vs = [.ref p] ∧ Rdr C H p a T s ∧ Q (.bl (decide (s.p = T.length))) H
def sp_token (C CI : Addr) : Sp := fun vs H Q E => ∃ (p a : Addr) (T : List Str) (s : RS), vs = [.ref p] ∧ Rdr C H p a T s ∧ (∀ t, T[s.p]? = some t → Q (.str t) H) ∧ (T[s.p]? = none → BadE CI E p H s.p)
def sp_read_word (C CI : Addr) : Sp := fun vs H Q E => ∃ (p a : Addr) (T : List Str) (s : RS) (k : Nat), vs = [.ref p, .int (2 - (k : Int))] ∧ k ≤ 2 ∧ Rdr C H p a T s ∧
  (∀ w s1 H', rdW T k s = .ok w s1 → Kp p H H' → Rdr C H' p a T s1 → Q (.str w) H') ∧ (∀ q, rdW T k s = .bad q → BadE CI E p H q)
def sp_read_count (C CI : Addr) : Sp := fun vs H Q E => ∃ (p a : Addr) (T : List Str) (s : RS) (m : Int), vs = [.ref p, .int m] ∧ Rdr C H p a T s ∧ (∀ t ∈ T, t.length ≤ 100000) ∧
  (∀ c s1 H', rdC T m s = .ok c s1 → Kp p H H' → Rdr C H' p a T s1 → Q (.int c) H') ∧ (∀ q, rdC T m s = .bad q → BadE CI E p H q)
def sp_read_bracket (C CI : Addr) : Sp := fun vs H Q E => ∃ (p a : Addr) (T : List Str) (s : RS), vs = [.ref p] ∧ Rdr C H p a T s ∧
  (∀ u s1 H', rdB T s = .ok u s1 → Kp p H H' → Rdr C H' p a T s1 → Q .non H') ∧ (∀ q, rdB T s = .bad q → BadE CI E p H q)
def sp_read_instruction (K : PySem.W.Frag) (C CI : Addr) (k : Nat) : Sp := fun vs H Q E => ∃ (p a : Addr) (T : List Str) (s : RS), vs = [.ref p, .int (3 - (k : Int))] ∧ 0 < k ∧ k ≤ 3 ∧ Rdr C H p a T s ∧ (∀ t ∈ T, t.length ≤ 100000) ∧
  (∀ i s1 v H', rdI T (k - 1) s = .ok i s1 → Kp p H H' → Rdr C H' p a T s1 → NwI K H H' v i → Q v H') ∧ (∀ q, rdI T (k - 1) s = .bad q → BadE CI E p H q)
/-- parse_program, of a text -/
def sp_parse_program (K : PySem.W.Frag) (CI : Addr) : Sp := fun vs H Q E => ∃ t : Str, vs = [.str t] ∧ t.length ≤ 100000 - 2 ∧
  (∀ b s1 D xs H', readT (tksOf t) = .ok b s1 → Same H H' → H D = none → H' D = some (.lst xs) → NwP K (upd H D (.lst [])) H' xs b → Q (.ref D) H') ∧
  (∀ q d H', readT (tksOf t) = .bad q → Same H H' → H' d = none → E (.ref CI) (some d) (upd H' d (.xd [("position", .int q)])))
def sp_count_of : Sp := fun vs H Q _ => ∃ t : Str, vs = [.str t] ∧ t.length ≤ 100000 ∧ ∀ H', Same H H' → Q (match ctOf t with | some c => .int c | none => .non) H'
def sp_is_countZ : Sp := fun vs H Q _ => ∃ z : Int, vs = [.int z] ∧ Q (.bl (decide (z.natAbs ≤ 10 ^ 30))) H
def sp_tokens_of (K : PySem.W.Frag) (k : Nat) : Sp := fun vs H Q _ => ∃ (v : V) (b : List Ins), vs = [v] ∧ PV K H v b ∧ dpP b < k ∧ k ≤ 3 ∧ CtP b ∧ cnP b ≤ 1000 ∧
  ∀ D H', Same H H' → H D = none → H' D = some (.lst ((tkP b).map V.str)) → Q (.ref D) H'
def sp_format_program (K : PySem.W.Frag) : Sp := fun vs H Q _ => ∃ (v : V) (b : List Ins), vs = [v] ∧ PV K H v b ∧ dpP b < 3 ∧ CtP b ∧ cnP b ≤ 1000 ∧ ∀ H', Same H H' → Q (.str (txP b)) H'
def sp__law_text (K : PySem.W.Frag) (k : Nat) : Sp := fun vs H Q _ => ∃ (v : V) (b : List Ins), vs = [v] ∧ PV K H v b ∧ dpP b < k ∧ k ≤ 3 ∧ CtP b ∧ cnP b ≤ 1000 ∧ ∀ H', Same H H' → Q (.str (txP b)) H'
def sp__law_listed (K : PySem.W.Frag) (k : Nat) : Sp := fun vs H Q _ => ∃ (v : V) (b : List Ins), vs = [v] ∧ PV K H v b ∧ dpP b < k ∧ k ≤ 3 ∧ cnP b ≤ 1000 ∧
  ∀ D xs H', Same H H' → H D = none → H' D = some (.lst xs) → NwP K H H' xs b → Q (.ref D) H'
end DR
/-! ### a token taken for a number -/
namespace DR
open PySem PySem.Spec PyProof.Rows L2 TL
theorem one_at (x : Str) {y : Str} {c : Nat} (hy : tl y = [c]) : Builtin.Str.subAt x y 0 = decide ((tl x).head? = some c) := by
  rw [PySem.StrLaws.subAt_eq, len_tl y, hy]
  show (((tl x).drop 0).take 1 == tl y) = _
  rw [hy, List.drop_zero]
  cases tl x with
  | nil => rfl
  | cons d r =>
    show ([d] == [c]) = _
    rw [Bool.eq_iff_iff]
    simp
theorem tl_minus : tl ("-" : Str) = [45] := by decide +kernel
theorem tl_zero : tl ("0" : Str) = [48] := by decide +kernel
theorem less_minus (x : Str) : tl (Txt.removeprefix x "-") = dgL (tl x) := by
  unfold Txt.removeprefix
  rw [one_at x tl_minus]
  have l1 : ("-" : Str).length = 1 := by decide +kernel
  cases e : tl x with
  | nil =>
    rw [if_neg (by simp)]
    show tl x = _
    rw [e]
    rfl
  | cons d r =>
    by_cases h : d = 45
    · subst h
      rw [if_pos (by simp)]
      have lx : x.length = r.length + 1 := by rw [len_tl, e, List.length_cons]
      unfold Txt.affix
      rw [l1, lx]
      dsimp only
      rw [if_neg (by simp)]
      have := tl_strSub_end x 1
      rw [lx, e] at this
      rw [this]
      rfl
    · rw [if_neg (by simp [h])]
      show tl x = _
      rw [e]
      unfold dgL
      split
      · next z => cases z; exact absurd rfl h
      · rfl
theorem zero_first (x : Str) : Txt.startswith x "0" = decide ((tl x).head? = some 48) := by
  unfold Txt.startswith
  rw [one_at x tl_zero]
  have l1 : ("0" : Str).length = 1 := by decide +kernel
  rw [l1, len_tl]
  cases tl x with
  | nil => rfl
  | cons d r =>
    rw [show decide (0 + 1 ≤ (d :: r).length) = true from decide_eq_true (by rw [List.length_cons]; omega)]
    rfl
theorem in_digits (c : Nat) : decide (c ∈ ("0123456789" : Str).cps.toList) = decide (48 ≤ c ∧ c ≤ 57) := by
  have e : ("0123456789" : Str).cps.toList = [48, 49, 50, 51, 52, 53, 54, 55, 56, 57] := by decide +kernel
  rw [e, Bool.eq_iff_iff]
  simp
  omega
theorem all_digits (l : List Nat) : ((l.map fun c => decide (48 ≤ c ∧ c ≤ 57)).all id) = decide (NumText.AllDigits l) := by
  rw [Bool.eq_iff_iff, decide_eq_true_iff, List.all_map]
  simp only [List.all_eq_true, Function.comp, id, decide_eq_true_iff]
  exact Iff.rfl
/-! [f(sign) for sign in text] -/
theorem lcSign {tv : TE} {σ : L2.St} {H : Hp} {vs : List Nat} {i : Nat} {te : TE} {Q : VK} {z : Str} (g : Nat → Bool) (hz : z.length ≤ 100000) (hv : ∀ R : VK, R (.str z) H → tv σ H R)
    (hw : ∀ x, wipe ((wipe σ vs).set i (some x)) vs = wipe σ vs)
    (he : ∀ (c : Nat) (H2 : Hp) (R : VK), R (.bl (g c)) H2 → te ((wipe σ vs).set i (some (.str ⟨#[c]⟩))) H2 R)
    (k : ∀ D H2, Same H H2 → H D = none → H2 D = some (.lst ((z.cps.toList.map g).map V.bl)) → Q (.ref D) H2) : tLc (iStr tv) (gName i) tYes te vs σ H Q := by
  refine hv _ ⟨z, rfl, ?_⟩
  intro D nD
  have len : z.cps.toList.length = z.length := Array.length_toList
  refine lc_it (walk_str (z := z)) (fun m H2 => H2 D = some (.lst (((z.cps.toList.take m).map g).map V.bl)) ∧ Same H H2) ⟨upd_same, same_new nD⟩ (fun _ _ _ _ => trivial) ?_ ?_
  · rintro m v H2 H3 hm ⟨hD, s2⟩ ⟨rfl, c, hc, rfl⟩
    refine ⟨hw _, ?_⟩
    dsimp only [tYes]
    rw [if_pos rfl]
    refine he c H3 _ ?_
    have hcl : z.cps.toList[m]? = some c := by rw [Array.getElem?_toList]; exact hc
    refine ⟨_, hD, ?_, ?_⟩
    · rw [List.length_map, List.length_map, List.length_take]
      exact sl_lt (by omega)
    · refine ⟨?_, same_mut s2 nD⟩
      rw [upd_same, take_snoc hcl, List.map_append, List.map_append]
      rfl
  · rintro H2 ⟨hD, s2⟩
    rw [show z.cps.size = z.cps.toList.length from Array.length_toList.symm, List.take_length] at hD
    exact k D H2 s2 nD hD
end DR
/-! ### reading an instruction, step by step -/
namespace DR
open PySem PySem.Spec PyProof.Rows L2
/-- what stands inside a repeat, where as many repeats may still stand inside one another -/
def inn (T : List Str) : Nat → RS → Rd (List Ins)
  | 0, s => .bad s.p
  | k + 1, s => rdL T (rdI T k) (T.length + 1) s
theorem rdI_inn (T : List Str) : ∀ (k : Nat) (s : RS), rdI T k s = rdO T k (inn T k) s
  | 0, s => by rw [rdI]; rfl
  | k + 1, s => by rw [rdI]; rfl
def rdCat (b : List Ins) : Rd (List Ins) → Rd (List Ins)
  | .bad q => .bad q
  | .ok is s => .ok (b ++ is) s
theorem rdCat_nil (r : Rd (List Ins)) : rdCat [] r = r := by cases r <;> rfl
theorem rdCat_cat (a b : List Ins) (r : Rd (List Ins)) : rdCat a (rdCat b r) = rdCat (a ++ b) r := by
  cases r with
  | bad q => rfl
  | ok is s => exact congrArg (fun l => Rd.ok l s) (List.append_assoc a b is).symm
theorem rdL_none {T : List Str} {one : RS → Rd Ins} {f : Nat} {s : RS} (h : T[s.p]? = none) : rdL T one (f + 1) s = .bad s.p := by
  unfold rdL
  rw [h]
theorem rdL_end {T : List Str} {one : RS → Rd Ins} {f : Nat} {s : RS} (h : T[s.p]? = some "]") : rdL T one (f + 1) s = .ok [] ⟨s.p + 1, s.n, s.r⟩ := by
  unfold rdL
  rw [h]
  exact if_pos rfl
theorem rdL_bad {T : List Str} {one : RS → Rd Ins} {f : Nat} {s : RS} {t : Str} {q : Nat} (h : T[s.p]? = some t) (ht : t ≠ "]") (h1 : one s = .bad q) : rdL T one (f + 1) s = .bad q := by
  unfold rdL
  rw [h]
  dsimp only
  rw [if_neg ht, h1]
theorem rdL_more {T : List Str} {one : RS → Rd Ins} {f : Nat} {s s1 : RS} {t : Str} {i : Ins} (h : T[s.p]? = some t) (ht : t ≠ "]") (h1 : one s = .ok i s1) : rdL T one (f + 1) s = rdCat [i] (rdL T one f s1) := by
  rw [show rdL T one (f + 1) s = _ from rfl]
  conv => lhs; unfold rdL
  rw [h]
  dsimp only
  rw [if_neg ht, h1]
  dsimp only
  cases rdL T one f s1 <;> rfl
/-- with a reader at p nothing but the reader has changed: tuples stay -/
theorem kp_tpI {H H' : Hp} {p C dx : Addr} {fs : List (Str × V)} (e : H p = some (.ins C dx fs)) (k : Kp p H H') : Tp H H' := by
  refine ⟨fun b xs z => k b _ (ne_of z e (by intro y; cases y)) z, fun b o u z => k b _ (ne_of z e (by intro y; cases y)) z⟩
theorem kp_freeI {H H' : Hp} {p C dx : Addr} {fs : List (Str × V)} (e' : H' p = some (.ins C dx fs)) (k : Kp p H H') : ∀ a, H' a = none → H a = none ∨ a = p := fun a n => by
  by_cases z : a = p
  · exact .inr z
  · cases h : H a with
    | none => exact .inl rfl
    | some o =>
      rw [k a o z h] at n
      cases n
theorem kp_free {H H' : Hp} {p : Addr} {o' : HO} (e' : H' p = some o') (k : Kp p H H') {a : Addr} (n : H' a = none) : H a = none := by
  cases h : H a with
  | none => rfl
  | some o =>
    have z : a ≠ p := fun z => by
      rw [z, e'] at n
      cases n
    rw [k a o z h] at n
    cases n
end DR
namespace DR
open PySem PySem.Spec PyProof.Rows L2 TL
theorem spl_short {S : List Nat} : ∀ {l : List Nat} {k : Nat} {acc p : List Nat}, p ∈ spl S k acc l → p.length ≤ acc.length + l.length
  | [], k, acc, p, h => by
    cases k <;> (unfold spl at h; rw [List.mem_singleton.mp h]; exact Nat.le_add_right _ _)
  | c :: r, 0, acc, p, h => by
    unfold spl at h
    rw [List.length_cons]
    split at h
    · rcases List.mem_cons.mp h with rfl | h
      · omega
      · have := spl_short h
        rw [List.length_nil] at this
        omega
    · have := spl_short h
      rw [List.length_append, List.length_singleton] at this
      omega
  | c :: r, k + 1, acc, p, h => by
    unfold spl at h
    have := spl_short h
    rw [List.length_cons]
    omega
theorem tks_short {t u : Str} (h : u ∈ tksOf t) : u.length ≤ t.length := by
  unfold tksOf at h
  split at h
  · exact absurd h List.not_mem_nil
  · have m : tl u ∈ (Txt.split t " ").map tl := List.mem_map.mpr ⟨u, h, rfl⟩
    rw [split_spl t " " (by rw [tl_blank]; simp) (kind_ok (by decide +kernel))] at m
    have := spl_short m
    rw [List.length_nil] at this
    rw [len_tl, len_tl t]
    omega
theorem tks_few (t : Str) : (tksOf t).length ≤ t.length + 2 := by
  unfold tksOf
  split
  · exact Nat.zero_le _
  · exact PyProof.Rows.split_le t " "
theorem rdP_end {T : List Str} {f : Nat} {s : RS} (h : s.p = T.length) : rdP T (f + 1) s = .ok [] s := by
  unfold rdP
  exact if_pos h
theorem rdP_bad {T : List Str} {f : Nat} {s : RS} {q : Nat} (h : s.p ≠ T.length) (h1 : rdI T 2 s = .bad q) : rdP T (f + 1) s = .bad q := by
  unfold rdP
  rw [if_neg h, h1]
theorem rdP_more {T : List Str} {f : Nat} {s s1 : RS} {i : Ins} (h : s.p ≠ T.length) (h1 : rdI T 2 s = .ok i s1) : rdP T (f + 1) s = rdCat [i] (rdP T f s1) := by
  conv => lhs; unfold rdP
  rw [if_neg h, h1]
  dsimp only
  cases rdP T f s1 <;> rfl
end DR
/-! ### the tokens read one by one, with a stack -/
namespace DR
open PySem PySem.Spec PyProof.Rows L2 TL
inductive Want where
  | word
  | count (wd : Str)
  | bracket (c : Int)
/-- what was read so far: what may stand next, the instructions of the innermost program, the programs around it -/
structure Mst where
  w : Want
  cur : List Ins
  stk : List (List Ins × Int)
  n : Nat
  r : Nat
def mword (t : Str) (s : Mst) : Option Mst :=
  if ¬ (t = "step" ∨ t = "turn" ∨ t = "repeat") ∨ s.n = 100 then none else
  if t = "repeat" ∧ (s.r = 5 ∨ s.stk.length = 2) then none else some ⟨.count t, s.cur, s.stk, s.n + 1, if t = "repeat" then s.r + 1 else s.r⟩
def mstep (t : Str) (s : Mst) : Option Mst := match s.w with
  | .count wd => match ctOf t with
    | none => none
    | some c => if wd = "repeat" then (if c < 0 then none else some ⟨.bracket c, s.cur, s.stk, s.n, s.r⟩) else some ⟨.word, s.cur ++ [if wd = "step" then .step c else .turn c], s.stk, s.n, s.r⟩
  | .bracket c => if t = "[" then some ⟨.word, [], (s.cur, c) :: s.stk, s.n, s.r⟩ else none
  | .word => match s.stk with
    | [] => mword t s
    | (o, c) :: rest => if t = "]" then some ⟨.word, o ++ [.rep c s.cur], rest, s.n, s.r⟩ else mword t s
/-- the program, or where the first token stands that cannot stand there -/
def mend (p : Nat) (s : Mst) : Nat ⊕ List Ins := match s.w with
  | .word => match s.stk with
    | [] => .inr s.cur
    | _ :: _ => .inl p
  | .count _ => .inl p
  | .bracket _ => .inl p
def mrun : List Str → Nat → Mst → Nat ⊕ List Ins
  | [], p, s => mend p s
  | t :: r, p, s => match mstep t s with
    | none => .inl p
    | some s' => mrun r (p + 1) s'
def resR : Rd (List Ins) → Nat ⊕ List Ins
  | .bad q => .inl q
  | .ok b _ => .inr b
theorem drop_at {T : List Str} {p : Nat} {t : Str} (h : T[p]? = some t) : T.drop p = t :: T.drop (p + 1) := by
  have hl := (List.getElem?_eq_some_iff.mp h).1
  have e := (List.getElem?_eq_some_iff.mp h).2
  rw [List.drop_eq_getElem_cons hl, e]
theorem mrun_at {T : List Str} {p : Nat} {t : Str} {s s' : Mst} (h : T[p]? = some t) (h2 : mstep t s = some s') : mrun (T.drop p) p s = mrun (T.drop (p + 1)) (p + 1) s' := by
  rw [drop_at h]
  unfold mrun
  rw [h2]
  cases T.drop (p + 1) <;> rfl
theorem mrun_stop {T : List Str} {p : Nat} {t : Str} {s : Mst} (h : T[p]? = some t) (h2 : mstep t s = none) : mrun (T.drop p) p s = .inl p := by
  rw [drop_at h]
  unfold mrun
  rw [h2]
theorem mrun_none {T : List Str} {p : Nat} {s : Mst} (h : T[p]? = none) : mrun (T.drop p) p s = mend p s := by
  rw [List.drop_eq_nil_of_le (List.getElem?_eq_none_iff.mp h)]
  rfl
/-- where a word is wanted, at a token that does not end the inner program -/
theorem mstep_word {t : Str} {cur : List Ins} {stk : List (List Ins × Int)} {n r : Nat} (h : t ≠ "]" ∨ stk = []) : mstep t ⟨.word, cur, stk, n, r⟩ = mword t ⟨.word, cur, stk, n, r⟩ := by
  unfold mstep
  cases stk with
  | nil => rfl
  | cons x rest =>
    rcases h with h | h
    · exact if_neg h
    · cases h
/-- a count is wanted -/
theorem mrun_count {T : List Str} {wd : Str} {cur : List Ins} {stk : List (List Ins × Int)} {s : RS} (hr : wd ≠ "repeat") : mrun (T.drop s.p) s.p ⟨.count wd, cur, stk, s.n, s.r⟩ = match rdC T (-(10 ^ 30)) s with
    | .bad q => .inl q
    | .ok c s1 => mrun (T.drop s1.p) s1.p ⟨.word, cur ++ [if wd = "step" then .step c else .turn c], stk, s1.n, s1.r⟩ := by
  unfold rdC
  cases h : T[s.p]? with
  | none =>
    rw [mrun_none h]
    rfl
  | some t =>
    dsimp only
    cases hc : ctOf t with
    | none =>
      rw [mrun_stop h (show mstep t _ = none by unfold mstep; dsimp only; rw [hc])]
    | some c =>
      have hb : c.natAbs ≤ 10 ^ 30 := by
        unfold ctOf at hc
        split at hc
        · next g =>
          cases hc
          exact g.2
        · cases hc
      dsimp only
      rw [if_neg (by omega)]
      rw [mrun_at h (show mstep t _ = some _ by unfold mstep; dsimp only; rw [hc]; dsimp only; rw [if_neg hr])]
theorem mrun_rounds {T : List Str} {cur : List Ins} {stk : List (List Ins × Int)} {s : RS} : mrun (T.drop s.p) s.p ⟨.count "repeat", cur, stk, s.n, s.r⟩ = match rdC T 0 s with
    | .bad q => .inl q
    | .ok c s1 => mrun (T.drop s1.p) s1.p ⟨.bracket c, cur, stk, s1.n, s1.r⟩ := by
  unfold rdC
  cases h : T[s.p]? with
  | none =>
    rw [mrun_none h]
    rfl
  | some t =>
    dsimp only
    cases hc : ctOf t with
    | none =>
      rw [mrun_stop h (show mstep t _ = none by unfold mstep; dsimp only; rw [hc])]
    | some c =>
      dsimp only
      by_cases h0 : c < 0
      · rw [if_pos h0, mrun_stop h (show mstep t _ = none by unfold mstep; dsimp only; rw [hc]; dsimp only; rw [if_pos rfl, if_pos h0])]
      · rw [if_neg h0, mrun_at h (show mstep t _ = some _ by unfold mstep; dsimp only; rw [hc]; dsimp only; rw [if_pos rfl, if_neg h0])]
theorem mrun_bracket {T : List Str} {c : Int} {cur : List Ins} {stk : List (List Ins × Int)} {s : RS} : mrun (T.drop s.p) s.p ⟨.bracket c, cur, stk, s.n, s.r⟩ = match rdB T s with
    | .bad q => .inl q
    | .ok _ s1 => mrun (T.drop s1.p) s1.p ⟨.word, [], (cur, c) :: stk, s1.n, s1.r⟩ := by
  unfold rdB
  cases h : T[s.p]? with
  | none =>
    rw [mrun_none h]
    rfl
  | some t =>
    dsimp only
    by_cases hb : t = "["
    · rw [if_pos hb, mrun_at h (show mstep t _ = some _ by unfold mstep; dsimp only; rw [if_pos hb])]
    · rw [if_neg hb, mrun_stop h (show mstep t _ = none by unfold mstep; dsimp only; rw [if_neg hb])]
theorem mrun_word {T : List Str} {k : Nat} {t : Str} {cur : List Ins} {stk : List (List Ins × Int)} {s : RS} (hk : stk.length + k = 2) (h : T[s.p]? = some t) (ht : t ≠ "]" ∨ stk = []) : mrun (T.drop s.p) s.p ⟨.word, cur, stk, s.n, s.r⟩ = match rdW T k s with
    | .bad q => .inl q
    | .ok wd s1 => mrun (T.drop s1.p) s1.p ⟨.count wd, cur, stk, s1.n, s1.r⟩ := by
  unfold rdW
  rw [h]
  dsimp only
  by_cases g : ¬ (t = "step" ∨ t = "turn" ∨ t = "repeat") ∨ s.n = 100
  · rw [if_pos g, mrun_stop h (show mstep t _ = none by rw [mstep_word ht]; unfold mword; dsimp only; rw [if_pos g])]
  · rw [if_neg g]
    by_cases g2 : t = "repeat" ∧ (k = 0 ∨ s.r = 5)
    · rw [if_pos g2, mrun_stop h (show mstep t _ = none by
        rw [mstep_word ht]
        unfold mword
        dsimp only
        rw [if_neg g, if_pos ⟨g2.1, g2.2.elim (fun z => .inr (by omega)) .inl⟩])]
    · rw [if_neg g2, mrun_at h (show mstep t _ = some _ by
        rw [mstep_word ht]
        unfold mword
        dsimp only
        rw [if_neg g, if_neg (fun z => g2 ⟨z.1, z.2.elim .inr fun y => .inl (by omega)⟩)])]
/-- an instruction, by what is read inside a repeat -/
theorem mrun_O {T : List Str} {k : Nat} {t : Str} {inner : RS → Rd (List Ins)} {cur : List Ins} {stk : List (List Ins × Int)} {s : RS} (hk : stk.length + k = 2) (h : T[s.p]? = some t) (ht : t ≠ "]" ∨ stk = []) (hn : s.n ≤ 100)
    (hin : k ≠ 0 → ∀ (c : Int) (s3 : RS), s3.p ≤ T.length → s3.n ≤ 100 → mrun (T.drop s3.p) s3.p ⟨.word, [], (cur, c) :: stk, s3.n, s3.r⟩ = match inner s3 with | .bad q => .inl q | .ok b s4 => mrun (T.drop s4.p) s4.p ⟨.word, cur ++ [.rep c b], stk, s4.n, s4.r⟩) :
    mrun (T.drop s.p) s.p ⟨.word, cur, stk, s.n, s.r⟩ = match rdO T k inner s with
    | .bad q => .inl q
    | .ok i s1 => mrun (T.drop s1.p) s1.p ⟨.word, cur ++ [i], stk, s1.n, s1.r⟩ := by
  rw [mrun_word hk h ht]
  unfold rdO
  cases e1 : rdW T k s with
  | bad q => rfl
  | ok wd s1 =>
    obtain ⟨a1, a2, a3, a4, a5, a6, a7⟩ := rdW_ok e1
    dsimp only
    by_cases hw : wd ≠ "repeat"
    · rw [if_pos hw, mrun_count hw]
      cases rdC T (-(10 ^ 30)) s1 <;> rfl
    · rw [if_neg hw]
      have hw' : wd = "repeat" := Decidable.not_not.mp hw
      subst hw'
      rw [mrun_rounds]
      cases e2 : rdC T 0 s1 with
      | bad q => rfl
      | ok c s2 =>
        obtain ⟨b1, b2, b3, b4, b5, b6⟩ := rdC_ok e2
        dsimp only
        rw [mrun_bracket]
        cases e3 : rdB T s2 with
        | bad q => rfl
        | ok u s3 =>
          obtain ⟨c1, c2, c3, c4⟩ := rdB_ok e3
          dsimp only
          rw [hin (a7 rfl).1 c s3 (by omega) (by omega)]
          cases inner s3 <;> rfl
theorem mrun_L {T : List Str} {k : Nat} {o : List Ins} {c : Int} {stk : List (List Ins × Int)} {one : RS → Rd Ins} (hgo : ∀ s i s1, s.p ≤ T.length → s.n ≤ 100 → one s = .ok i s1 → GoI T k s i s1 ∧ s1.n ≤ 100)
    (h1 : ∀ (s : RS) (t : Str) (cur : List Ins), s.n ≤ 100 → T[s.p]? = some t → t ≠ "]" → mrun (T.drop s.p) s.p ⟨.word, cur, (o, c) :: stk, s.n, s.r⟩ = match one s with | .bad q => .inl q | .ok i s1 => mrun (T.drop s1.p) s1.p ⟨.word, cur ++ [i], (o, c) :: stk, s1.n, s1.r⟩) :
    ∀ (f : Nat) (s : RS) (cur : List Ins), s.p ≤ T.length → s.n ≤ 100 → T.length < f + s.p → mrun (T.drop s.p) s.p ⟨.word, cur, (o, c) :: stk, s.n, s.r⟩ = match rdL T one f s with
    | .bad q => .inl q
    | .ok b s1 => mrun (T.drop s1.p) s1.p ⟨.word, o ++ [.rep c (cur ++ b)], stk, s1.n, s1.r⟩
  | 0, s, cur, hp, hn, hf => absurd hf (by omega)
  | f + 1, s, cur, hp, hn, hf => by
    cases h : T[s.p]? with
    | none =>
      rw [rdL_none h, mrun_none h]
      rfl
    | some t =>
      by_cases he : t = "]"
      · subst he
        rw [rdL_end h]
        dsimp only
        rw [List.append_nil, mrun_at h (show mstep _ _ = some _ by unfold mstep; dsimp only; rw [if_pos rfl])]
      · rw [h1 s t cur hn h he]
        cases e : one s with
        | bad q => rw [rdL_bad h he e]
        | ok i s1 =>
          obtain ⟨g, gn⟩ := hgo s i s1 hp hn e
          rw [rdL_more h he e]
          dsimp only
          rw [mrun_L hgo h1 f s1 (cur ++ [i]) g.q gn (by have := g.p; omega)]
          cases rdL T one f s1 with
          | bad q => rfl
          | ok b s2 =>
            show mrun _ _ ⟨_, o ++ [.rep c (cur ++ [i] ++ b)], _, _, _⟩ = mrun _ _ ⟨_, o ++ [.rep c (cur ++ (i :: b))], _, _, _⟩
            rw [List.append_assoc]
            rfl
theorem mrun_I {T : List Str} : ∀ (k : Nat) (s : RS) (t : Str) (cur : List Ins) (stk : List (List Ins × Int)), stk.length + k = 2 → T[s.p]? = some t → (t ≠ "]" ∨ stk = []) → s.n ≤ 100 → mrun (T.drop s.p) s.p ⟨.word, cur, stk, s.n, s.r⟩ = match rdI T k s with
    | .bad q => .inl q
    | .ok i s1 => mrun (T.drop s1.p) s1.p ⟨.word, cur ++ [i], stk, s1.n, s1.r⟩
  | 0, s, t, cur, stk, hk, h, ht, hn => by
    unfold rdI
    exact mrun_O hk h ht hn fun z => absurd rfl z
  | k + 1, s, t, cur, stk, hk, h, ht, hn => by
    unfold rdI
    refine mrun_O hk h ht hn fun _ c s3 hp hn3 => ?_
    exact mrun_L (fun s i s1 _ hn e => rdI_ok hn e) (fun s4 t4 cur4 hn4 h4 ht4 => mrun_I k s4 t4 cur4 ((cur, c) :: stk) (by rw [List.length_cons]; omega) h4 (.inl ht4) hn4) (T.length + 1) s3 [] hp hn3 (by omega)
theorem mrun_P {T : List Str} : ∀ (f : Nat) (s : RS) (cur : List Ins), s.p ≤ T.length → s.n ≤ 100 → T.length < f + s.p → mrun (T.drop s.p) s.p ⟨.word, cur, [], s.n, s.r⟩ = match rdP T f s with
    | .bad q => .inl q
    | .ok b _ => .inr (cur ++ b)
  | 0, s, cur, hp, hn, hf => absurd hf (by omega)
  | f + 1, s, cur, hp, hn, hf => by
    by_cases he : s.p = T.length
    · rw [rdP_end he, mrun_none (List.getElem?_eq_none (Nat.le_of_eq he.symm))]
      show Sum.inr cur = Sum.inr (cur ++ [])
      rw [List.append_nil]
    · have hlt : s.p < T.length := by omega
      rw [mrun_I 2 s T[s.p] cur [] rfl (List.getElem?_eq_getElem hlt) (.inr rfl) hn]
      cases e : rdI T 2 s with
      | bad q => rw [rdP_bad he e]
      | ok i s1 =>
        obtain ⟨g, gn⟩ := rdI_ok hn e
        rw [rdP_more he e]
        dsimp only
        rw [mrun_P f s1 (cur ++ [i]) g.q gn (by have := g.p; omega)]
        cases rdP T f s1 with
        | bad q => rfl
        | ok b s2 =>
          show Sum.inr (cur ++ [i] ++ b) = Sum.inr (cur ++ (i :: b))
          rw [List.append_assoc]
          rfl
/-- token by token the same is read -/
theorem mrun_read (T : List Str) : mrun T 0 ⟨.word, [], [], 0, 0⟩ = resR (readT T) := by
  have := mrun_P (T := T) (T.length + 1) ⟨0, 0, 0⟩ [] (Nat.zero_le _) (Nat.zero_le _) (by show T.length < T.length + 1 + 0; omega)
  rw [List.drop_zero] at this
  rw [this]
  unfold readT
  cases rdP T (T.length + 1) ⟨0, 0, 0⟩ <;> rfl
end DR
namespace DR
open PySem PySem.Spec PyProof.Rows L2
def sp__law_program (K : PySem.W.Frag) : Sp := fun vs H Q _ => ∃ (p c : Addr) (most reach rounds : Int) (n : Nat), vs = [.ref p, .int most, .int reach, .int rounds] ∧ 0 ≤ most ∧ most ≤ 50 ∧ 0 ≤ reach ∧ reach ≤ 10 ^ 30 ∧ 0 ≤ rounds ∧ rounds ≤ 10 ^ 30 ∧ PenAt H p c n ∧ n < 2 ^ 38 ∧
  ∀ F xs b H', Kp p H H' → PenAt H' p c (n + 2000) → H' F = some (.lst xs) → IVs K H' xs b → PrOk b 2 656 → Q (.ref F) H'
def sp__law_wide_program (K : PySem.W.Frag) : Sp := fun vs H Q _ => ∃ (p c : Addr) (most : Int) (n : Nat), vs = [.ref p, .int most] ∧ 0 ≤ most ∧ most ≤ 50 ∧ PenAt H p c n ∧ n < 2 ^ 37 ∧
  ∀ F xs b H', Kp p H H' → PenAt H' p c (n + 2002) → H' F = some (.lst xs) → IVs K H' xs b → PrOk b 2 656 → Q (.ref F) H'
def sp__law_full_program (K : PySem.W.Frag) : Sp := fun vs H Q _ => ∃ (p c : Addr) (n : Nat), vs = [.ref p] ∧ PenAt H p c n ∧ n < 2 ^ 37 ∧
  ∀ F xs b H', Kp p H H' → PenAt H' p c (n + 500) → H' F = some (.lst xs) → IVs K H' xs b → PrOk b 2 1000 → Q (.ref F) H'
def sp__law_handed (K : PySem.W.Frag) (k : Nat) : Sp := fun vs H Q _ => ∃ (p c : Addr) (v : V) (b : List Ins) (n : Nat), vs = [.ref p, v] ∧ PV K H v b ∧ dpP b < k ∧ cnP b ≤ 1000 ∧ PenAt H p c n ∧ n + cnP b + 1 < 2 ^ 39 ∧
  ∀ u H', Kp p H H' → PenAt H' p c (n + cnP b + 1) → PV K (er H H') u b → Q u H'
def sp__law_shift (K : PySem.W.Frag) (k : Nat) : Sp := fun vs H Q _ => ∃ (v : V) (b : List Ins), vs = [v] ∧ PV K H v b ∧ dpP b < k ∧ k ≤ 3 ∧ WP b ∧ b.length ≤ 1024 ∧ ∀ H', Same H H' → Q (.int (shP b)) H'
def sp__law_executed (K : PySem.W.Frag) (k : Nat) : Sp := fun vs H Q _ => ∃ (v : V) (b : List Ins), vs = [v] ∧ PV K H v b ∧ dpP b < k ∧ k ≤ 3 ∧ WP b ∧ b.length ≤ 1024 ∧ ∀ H', Same H H' → Q (.int (exP b)) H'
theorem sh_sum : ∀ b : List Ins, (b.map shI).sum = shP b
  | [] => by rw [shP_nil]; rfl
  | i :: r => by rw [List.map_cons, List.sum_cons, sh_sum r, shP_cons]
theorem ex_sum : ∀ b : List Ins, (b.map exI).sum = exP b
  | [] => by rw [exP_nil]; rfl
  | i :: r => by rw [List.map_cons, List.sum_cons, ex_sum r, exP_cons]
/-! [an int for x in a program] -/
section
variable {K : PySem.W.Frag} {a : Addr} {xs : List V} {b : List Ins} {σ : L2.St} {H : Hp} {vs : List Nat} {n i : Nat} {te tv : TE} {Q : VK}
theorem lcIvL (G : Ins → Int) (hv : ∀ R : VK, R (.ref a) H → tv σ H R) (hs : SqL K H a xs) (hI : IVs K H xs b) (hl : b.length ≤ 100000)
    (hw : ∀ x, wipe ((wipe σ vs).set i (some x)) vs = wipe σ vs)
    (he : ∀ t ∈ b, ∀ x H2, Same H H2 → IV K H2 x t → ∀ R : VK, (∀ H3, Same H2 H3 → R (.int (G t)) H3) → te ((wipe σ vs).set i (some x)) H2 R)
    (k : ∀ D H2, H D = none → Same H H2 → H2 D = some (.lst ((b.map G).map V.int)) → Q (.ref D) H2) : tLc (iList K tv) (gName i) tYes te vs σ H Q := by
  refine hv _ ⟨a, rfl, ⟨_, hs⟩, fun D nD => lc_list (K := K) (a := a) (xs := xs) (fun m H2 => Same H H2 ∧ H2 D = some (.lst (((b.take m).map G).map V.int))) ⟨same_new nD, upd_same⟩ (fun m H2 _ g => same_l g.1 hs) ?_ ?_⟩
  · rintro m x H2 hm ⟨s2, h2⟩
    obtain ⟨t, ht, hx⟩ := hI.get hm
    refine ⟨hw _, ?_⟩
    dsimp only [tYes]
    rw [if_pos rfl]
    have hm2 : m < b.length := (List.getElem?_eq_some_iff.mp ht).1
    refine he t (List.mem_of_getElem? ht) x H2 s2 (hx.same s2) _ fun H3 s3 => ⟨_, s3 _ _ h2, sl_lt (by rw [List.length_map, List.length_map, List.length_take]; omega), same_mut (s2.trans s3) nD, ?_⟩
    rw [upd_same, take_snoc ht, List.map_append, List.map_append]
    rfl
  · rintro H2 ⟨s2, h2⟩
    rw [hI.len, List.take_length] at h2
    exact k D H2 nD s2 h2
theorem lcIvT (G : Ins → Int) (hv : ∀ R : VK, R (.ref a) H → tv σ H R) (hs : SqT K H a xs) (hI : IVs K H xs b) (hl : b.length ≤ 100000)
    (hw : ∀ x, wipe ((wipe σ vs).set i (some x)) vs = wipe σ vs)
    (he : ∀ t ∈ b, ∀ x H2, Same H H2 → IV K H2 x t → ∀ R : VK, (∀ H3, Same H2 H3 → R (.int (G t)) H3) → te ((wipe σ vs).set i (some x)) H2 R)
    (k : ∀ D H2, H D = none → Same H H2 → H2 D = some (.lst ((b.map G).map V.int)) → Q (.ref D) H2) : tLc (iTup K tv) (gName i) tYes te vs σ H Q := by
  refine hv _ ⟨a, rfl, ⟨_, hs⟩, fun D nD => lc_tup (K := K) (a := a) (xs := xs) (fun m H2 => Same H H2 ∧ H2 D = some (.lst (((b.take m).map G).map V.int))) ⟨same_new nD, upd_same⟩ (fun m H2 _ g => same_t g.1 hs) ?_ ?_⟩
  · rintro m x H2 hm ⟨s2, h2⟩
    obtain ⟨t, ht, hx⟩ := hI.get hm
    refine ⟨hw _, ?_⟩
    dsimp only [tYes]
    rw [if_pos rfl]
    have hm2 : m < b.length := (List.getElem?_eq_some_iff.mp ht).1
    refine he t (List.mem_of_getElem? ht) x H2 s2 (hx.same s2) _ fun H3 s3 => ⟨_, s3 _ _ h2, sl_lt (by rw [List.length_map, List.length_map, List.length_take]; omega), same_mut (s2.trans s3) nD, ?_⟩
    rw [upd_same, take_snoc ht, List.map_append, List.map_append]
    rfl
  · rintro H2 ⟨s2, h2⟩
    rw [hI.len, List.take_length] at h2
    exact k D H2 nD s2 h2
end
/-! rules whose fragment is told: for the inside of comprehensions -/
section
variable {X : Cx}
theorem ix_tupK (K : PySem.W.Frag) (h : X.K = K) : IxR X (rIxT K) := h ▸ ix_tup
theorem ix_listK (K : PySem.W.Frag) (h : X.K = K) : IxR X (rIxL K) := h ▸ ix_list
theorem op_catAK (K : PySem.W.Frag) (h : X.K = K) : OpR X (binaryOp .Add) (rCatA K) := h ▸ op_catA
theorem sl_tupAK (K : PySem.W.Frag) (h : X.K = K) : SlR X (rSlA K) := h ▸ sl_tupA
theorem sl_listK (K : PySem.W.Frag) (h : X.K = K) : SlR X (rSlL K) := h ▸ sl_list
end
/-! lists that stay while the pen draws -/
theorem kp_lst {H H' : Hp} {p c F : Addr} {n : Nat} {xs : List V} (pen : PenAt H p c n) (k : Kp p H H') (h : H F = some (.lst xs)) : H' F = some (.lst xs) :=
  k _ _ (pen.dict.elim fun _ e => ne_of h e (by intro z; cases z)) h
end DR
namespace DR
open PySem PySem.Spec PyProof.Rows L2
/-! ### what a program turns: at each place, run from 0 -/
def rsum (f : Int → Int) (s : Int) : Nat → Int → Int
  | 0, _ => 0
  | n + 1, x => rsum f s n x + f (x - n * s)
mutual
def seI : Ins → Int → Int
  | .step _, _ => 0
  | .turn c, x => if x = 0 then c else 0
  | .rep n b, x => rsum (fun y => seP b y) (shP b) n.toNat x
def seP : List Ins → Int → Int
  | [], _ => 0
  | i :: r, x => seI i x + seP r (x - shI i)
end
/-! the counts of repeats are from 0 on, and not too large to be run -/
mutual
def NI : Ins → Prop
  | .step _ => True
  | .turn _ => True
  | .rep n b => 0 ≤ n ∧ NP b
def NP : List Ins → Prop
  | [] => True
  | i :: r => NI i ∧ NP r
end
mutual
def unI : Ins → List Ins
  | .step c => [.step c]
  | .turn c => [.turn c]
  | .rep n b => (List.replicate n.toNat (unP b)).flatten
def unP : List Ins → List Ins
  | [] => []
  | i :: r => unI i ++ unP r
end
theorem seP_nil (x : Int) : seP [] x = 0 := by rw [seP]
theorem seP_cons (i : Ins) (r : List Ins) (x : Int) : seP (i :: r) x = seI i x + seP r (x - shI i) := by rw [seP]
theorem seP_app : ∀ (a b : List Ins) (x : Int), seP (a ++ b) x = seP a x + seP b (x - shP a)
  | [], b, x => by rw [List.nil_append, seP_nil, shP_nil, Int.zero_add, Int.sub_zero]
  | i :: r, b, x => by
    rw [List.cons_append, seP_cons, seP_cons, seP_app r b, shP_cons, Int.add_assoc]
    congr 2
    congr 1
    omega
theorem rsum_congr {f g : Int → Int} {s : Int} (h : ∀ x, f x = g x) : ∀ (n : Nat) (x : Int), rsum f s n x = rsum g s n x
  | 0, _ => rfl
  | n + 1, x => by
    show rsum f s n x + f _ = rsum g s n x + g _
    rw [rsum_congr h n x, h]
theorem NP_cons (i : Ins) (r : List Ins) : NP (i :: r) = (NI i ∧ NP r) := by rw [NP]
theorem NP_app : ∀ (a b : List Ins), NP a → NP b → NP (a ++ b)
  | [], b, _, h => h
  | i :: r, b, h, h2 => by
    rw [List.cons_append, NP_cons]
    rw [NP_cons] at h
    exact ⟨h.1, NP_app r b h.2 h2⟩
theorem NP_mem : ∀ {b : List Ins} {i : Ins}, NP b → i ∈ b → NI i
  | [], _, _, h => absurd h List.not_mem_nil
  | j :: r, i, w, h => by
    rw [NP_cons] at w
    rcases List.mem_cons.mp h with e | e
    · rw [e]; exact w.1
    · exact NP_mem w.2 e
theorem unP_cons (i : Ins) (r : List Ins) : unP (i :: r) = unI i ++ unP r := by rw [unP]
theorem unP_app : ∀ (a b : List Ins), unP (a ++ b) = unP a ++ unP b
  | [], b => by rw [show unP [] = [] by unfold unP; rfl]; rfl
  | i :: r, b => by rw [List.cons_append, unP_cons, unP_cons, unP_app r b, List.append_assoc]
theorem sh_flat (u : List Ins) : ∀ n : Nat, shP (List.replicate n u).flatten = n * shP u
  | 0 => by
    rw [List.replicate_zero, List.flatten_nil, shP_nil]
    omega
  | n + 1 => by
    rw [List.replicate_succ, List.flatten_cons, shP_app, sh_flat u n, Int.natCast_succ, Int.add_mul]
    omega
theorem ex_flat (u : List Ins) : ∀ n : Nat, exP (List.replicate n u).flatten = n * exP u
  | 0 => by
    rw [List.replicate_zero, List.flatten_nil, exP_nil]
    omega
  | n + 1 => by
    rw [List.replicate_succ, List.flatten_cons, exP_app, ex_flat u n, Int.natCast_succ, Int.add_mul]
    omega
theorem se_flat (u : List Ins) : ∀ (n : Nat) (x : Int), seP (List.replicate n u).flatten x = rsum (fun y => seP u y) (shP u) n x
  | 0, x => by
    rw [List.replicate_zero, List.flatten_nil, seP_nil]
    rfl
  | n + 1, x => by
    rw [List.replicate_succ', List.flatten_append, seP_app, se_flat u n x, sh_flat, List.flatten_cons, List.flatten_nil, List.append_nil]
    rfl
/-! the same effect, written out -/
mutual
theorem unI_ok : ∀ (i : Ins), NI i → shP (unI i) = shI i ∧ exP (unI i) = exI i ∧ ∀ x, seP (unI i) x = seI i x
  | .step c, _ => by
    rw [unI]
    refine ⟨by rw [shP_cons, shP_nil, Int.add_zero], by rw [exP_cons, exP_nil, Int.add_zero], fun x => by rw [seP_cons, seP_nil, Int.add_zero]⟩
  | .turn c, _ => by
    rw [unI]
    refine ⟨by rw [shP_cons, shP_nil, Int.add_zero], by rw [exP_cons, exP_nil, Int.add_zero], fun x => by rw [seP_cons, seP_nil, Int.add_zero]⟩
  | .rep n b, h => by
    rw [NI] at h
    obtain ⟨h1, h2, h3⟩ := unP_ok b h.2
    have hn : ((n.toNat : Nat) : Int) = n := Int.toNat_of_nonneg h.1
    rw [unI]
    refine ⟨by rw [sh_flat, h1, shI, hn], by rw [ex_flat, h2, exI, hn], fun x => ?_⟩
    rw [se_flat, seI, h1]
    exact rsum_congr h3 _ _
theorem unP_ok : ∀ (b : List Ins), NP b → shP (unP b) = shP b ∧ exP (unP b) = exP b ∧ ∀ x, seP (unP b) x = seP b x
  | [], _ => by
    rw [show unP [] = [] by unfold unP; rfl]
    exact ⟨rfl, rfl, fun _ => rfl⟩
  | i :: r, h => by
    rw [NP_cons] at h
    obtain ⟨a1, a2, a3⟩ := unI_ok i h.1
    obtain ⟨b1, b2, b3⟩ := unP_ok r h.2
    rw [unP_cons]
    exact ⟨by rw [shP_app, a1, b1, shP_cons], by rw [exP_app, a2, b2, exP_cons], fun x => by rw [seP_app, a3, b3, a1, seP_cons]⟩
end
mutual
theorem unI_flat : ∀ (i : Ins), ∀ j ∈ unI i, isFlat j
  | .step c, j, h => by
    rw [unI] at h
    cases List.mem_singleton.mp h
    trivial
  | .turn c, j, h => by
    rw [unI] at h
    cases List.mem_singleton.mp h
    trivial
  | .rep n b, j, h => by
    rw [unI] at h
    obtain ⟨l, hl, hj⟩ := List.mem_flatten.mp h
    rw [(List.mem_replicate.mp hl).2] at hj
    exact unP_flat b j hj
theorem unP_flat : ∀ (b : List Ins), ∀ j ∈ unP b, isFlat j
  | [], j, h => by
    rw [show unP [] = [] by unfold unP; rfl] at h
    exact absurd h List.not_mem_nil
  | i :: r, j, h => by
    rw [unP_cons] at h
    rcases List.mem_append.mp h with z | z
    · exact unI_flat i j z
    · exact unP_flat r j z
end
theorem flat_ex : ∀ (u : List Ins), (∀ j ∈ u, isFlat j) → exP u = (u.length : Int)
  | [], _ => by rw [exP_nil]; rfl
  | i :: r, h => by
    have h1 := h i List.mem_cons_self
    have h2 : exI i = 1 := by cases i <;> first | exact absurd h1 id | (rw [exI])
    rw [exP_cons, h2, flat_ex r fun j hj => h j (List.mem_cons_of_mem _ hj), List.length_cons]
    omega
theorem un_len {b : List Ins} (h : NP b) : ((unP b).length : Int) = exP b := by
  rw [← flat_ex _ (unP_flat b), (unP_ok b h).2.1]
mutual
theorem exI_nn : ∀ (i : Ins), NI i → 0 ≤ exI i
  | .step c, _ => by rw [exI]; decide
  | .turn c, _ => by rw [exI]; decide
  | .rep n b, h => by
    rw [NI] at h
    rw [exI]
    exact Int.mul_nonneg h.1 (exP_nn b h.2)
theorem exP_nn : ∀ (b : List Ins), NP b → 0 ≤ exP b
  | [], _ => by rw [exP_nil]; exact Int.le_refl _
  | i :: r, h => by
    rw [NP_cons] at h
    have := exI_nn i h.1
    have := exP_nn r h.2
    rw [exP_cons]
    omega
end
theorem exP_mem : ∀ {b : List Ins} {i : Ins}, NP b → i ∈ b → exI i ≤ exP b
  | [], _, _, h => absurd h List.not_mem_nil
  | j :: r, i, w, h => by
    rw [NP_cons] at w
    have h1 := exI_nn j w.1
    have h2 := exP_nn r w.2
    rw [exP_cons]
    rcases List.mem_cons.mp h with e | e
    · rw [e]; omega
    · have := exP_mem w.2 e; omega
theorem exP_take : ∀ (b : List Ins) (j : Nat), NP b → exP (b.take j) ≤ exP b
  | [], _, _ => by rw [List.take_nil]; exact Int.le_refl _
  | i :: r, 0, h => by
    rw [List.take_zero, exP_nil]
    exact exP_nn _ h
  | i :: r, j + 1, h => by
    rw [NP_cons] at h
    rw [List.take_succ_cons, exP_cons, exP_cons]
    have := exP_take r j h.2
    omega
theorem seP_snoc {b : List Ins} {j : Nat} {i : Ins} (h : b[j]? = some i) (x : Int) : seP (b.take (j + 1)) x = seP (b.take j) x + seI i (x - shP (b.take j)) := by
  rw [take_snoc h, seP_app, seP_cons, seP_nil, Int.add_zero]
theorem unP_snoc {b : List Ins} {j : Nat} {i : Ins} (h : b[j]? = some i) : unP (b.take (j + 1)) = unP (b.take j) ++ unI i := by
  rw [take_snoc h, unP_app, unP_cons, show unP [] = [] by unfold unP; rfl, List.append_nil]
theorem NP_take : ∀ {b : List Ins} (j : Nat), NP b → NP (b.take j)
  | [], _, _ => by rw [List.take_nil, NP]; trivial
  | i :: r, 0, h => by rw [List.take_zero, NP]; trivial
  | i :: r, j + 1, h => by
    rw [NP_cons] at h
    rw [List.take_succ_cons, NP_cons]
    exact ⟨h.1, NP_take j h.2⟩
/-! rounds that may be run -/
mutual
def RI (N : Int) : Ins → Prop
  | .step _ => True
  | .turn _ => True
  | .rep n b => n ≤ N ∧ RP N b
def RP (N : Int) : List Ins → Prop
  | [] => True
  | i :: r => RI N i ∧ RP N r
end
theorem RP_cons (N : Int) (i : Ins) (r : List Ins) : RP N (i :: r) = (RI N i ∧ RP N r) := by rw [RP]
theorem RP_mem {N : Int} : ∀ {b : List Ins} {i : Ins}, RP N b → i ∈ b → RI N i
  | [], _, _, h => absurd h List.not_mem_nil
  | j :: r, i, w, h => by
    rw [RP_cons] at w
    rcases List.mem_cons.mp h with e | e
    · rw [e]; exact w.1
    · exact RP_mem w.2 e
theorem RP_app {N : Int} : ∀ (a b : List Ins), RP N a → RP N b → RP N (a ++ b)
  | [], b, _, h => h
  | i :: r, b, h, h2 => by
    rw [List.cons_append, RP_cons]
    rw [RP_cons] at h
    exact ⟨h.1, RP_app r b h.2 h2⟩
/-! ### how far a run goes -/
mutual
def trI : Ins → Int
  | .step c => (c.natAbs : Int)
  | .turn _ => 0
  | .rep n b => (n.natAbs : Int) * trP b
def trP : List Ins → Int
  | [] => 0
  | i :: r => trI i + trP r
end
theorem trP_nil : trP [] = 0 := by unfold trP; rfl
theorem trP_cons (i : Ins) (r : List Ins) : trP (i :: r) = trI i + trP r := by rw [trP]
mutual
theorem trI_nn : ∀ i : Ins, 0 ≤ trI i
  | .step c => by rw [trI]; omega
  | .turn c => by rw [trI]; omega
  | .rep n b => by
    rw [trI]
    exact Int.mul_nonneg (by omega) (trP_nn b)
theorem trP_nn : ∀ b : List Ins, 0 ≤ trP b
  | [] => by rw [trP_nil]; omega
  | i :: r => by
    have := trI_nn i
    have := trP_nn r
    rw [trP_cons]
    omega
end
mutual
theorem shI_tr : ∀ i : Ins, ((shI i).natAbs : Int) ≤ trI i
  | .step c => by rw [shI, trI]; omega
  | .turn c => by rw [shI, trI]; omega
  | .rep n b => by
    rw [shI, trI, Int.natAbs_mul, Int.natCast_mul]
    exact Int.mul_le_mul_of_nonneg_left (shP_tr b) (by omega)
theorem shP_tr : ∀ b : List Ins, ((shP b).natAbs : Int) ≤ trP b
  | [] => by rw [shP_nil, trP_nil]; decide
  | i :: r => by
    have := shI_tr i
    have := shP_tr r
    rw [shP_cons, trP_cons]
    omega
end
theorem rsum_far {f : Int → Int} {s t : Int} (hs : (s.natAbs : Int) ≤ t) (hf : ∀ x : Int, t < (x.natAbs : Int) → f x = 0) : ∀ (n : Nat) (x : Int), (n : Int) * t < (x.natAbs : Int) → rsum f s n x = 0
  | 0, _, _ => rfl
  | n + 1, x, h => by
    rw [Int.natCast_succ, Int.add_mul, Int.one_mul] at h
    have h0 : 0 ≤ t := by omega
    have h1 : ((n * s).natAbs : Int) ≤ (n : Int) * t := by
      rw [Int.natAbs_mul, Int.natCast_mul]
      exact Int.mul_le_mul_of_nonneg_left hs (by omega)
    show rsum f s n x + f (x - n * s) = 0
    rw [rsum_far hs hf n x (by omega), hf _ (by omega)]
    rfl
mutual
theorem seI_far : ∀ (i : Ins) (x : Int), NI i → trI i < (x.natAbs : Int) → seI i x = 0
  | .step c, x, _, _ => by rw [seI]
  | .turn c, x, _, h => by
    rw [trI] at h
    rw [seI, if_neg (by omega)]
  | .rep n b, x, hn, h => by
    rw [NI] at hn
    rw [trI] at h
    rw [seI]
    refine rsum_far (t := trP b) (shP_tr b) (fun y hy => seP_far b y hn.2 hy) _ _ ?_
    rw [Int.toNat_of_nonneg hn.1]
    have e : ((n.natAbs : Nat) : Int) = n := by omega
    rw [e] at h
    exact h
theorem seP_far : ∀ (b : List Ins) (x : Int), NP b → trP b < (x.natAbs : Int) → seP b x = 0
  | [], x, _, _ => seP_nil x
  | i :: r, x, hn, h => by
    rw [NP_cons] at hn
    rw [trP_cons] at h
    have := shI_tr i
    have := trP_nn r
    have := trI_nn i
    rw [seP_cons, seI_far i x hn.1 (by omega), seP_far r _ hn.2 (by omega)]
    rfl
end
theorem tr_big : ∀ (k : Nat) (b : List Ins), dpP b ≤ k → WP b → b.length ≤ 1024 → (trP b).natAbs ≤ 2 ^ (110 * (k + 1))
  | k, b, hd, hw, hl => by
    have hI : ∀ i ∈ b, (trI i).natAbs ≤ 2 ^ (110 * k + 100) := fun i hi => by
      have wi := WP_mem hw hi
      have di := Nat.le_trans (dpP_mem hi) hd
      cases i with
      | step c =>
        rw [trI]
        rw [WI] at wi
        exact Nat.le_trans (show ((c.natAbs : Int)).natAbs ≤ 2 ^ 100 by omega) (pow_le2 (by omega))
      | turn c =>
        rw [trI]
        exact Nat.zero_le _
      | rep n bb =>
        rw [trI]
        rw [WI] at wi
        rw [dpI] at di
        have := tr_big (k - 1) bb (by omega) wi.2.2 wi.2.1
        rw [Int.natAbs_mul]
        have e : 110 * (k - 1 + 1) = 110 * k := by omega
        rw [e] at this
        have h3 := Nat.mul_le_mul (show ((n.natAbs : Int)).natAbs ≤ 2 ^ 100 by omega) this
        rw [← Nat.pow_add] at h3
        rw [Nat.add_comm]
        exact h3
    have h := bigs trI trP trP_nil trP_cons _ b hI
    have h2 : 2 ^ (110 * k + 100) * b.length ≤ 2 ^ (110 * k + 100) * 2 ^ 10 := Nat.mul_le_mul_left _ hl
    rw [← Nat.pow_add] at h2
    exact Nat.le_trans h h2
termination_by k => k
decreasing_by
  rw [dpI] at di
  omega
/-- the dials that a run turns may be shown -/
theorem se_sm {q : Int} {b : List Ins} {g : Pol} (N : Nf q g (seP b)) (hq : q ≤ 97) (hd : dpP b ≤ 2) (hw : WP b) (hl : b.length ≤ 1024) (hn : NP b) (hg : g.length ≤ 50000) : Sm g := by
  refine ⟨hg, fun t ht => ⟨N.subP (R := fun e => e.natAbs < 10 ^ 100) (fun e he => ?_) t ht, ?_⟩⟩
  · rw [seP_far b e hn ?_]
    · rfl
    · have h1 := tr_big 2 b hd hw hl
      have h2 : 2 ^ (110 * (2 + 1)) < 10 ^ 100 := by decide +kernel
      have h3 := trP_nn b
      omega
  · have := N.rng t ht
    exact Nat.lt_of_le_of_lt (show t.2.natAbs ≤ 97 by omega) (by decide +kernel)
/-! ### drawn programs, with what their repeats may do -/
structure PrR (b : List Ins) (k N : Nat) (R : Int) : Prop where
  ok : PrOk b k N
  nn : NP b
  rp : RP R b
theorem flat_np : ∀ {b : List Ins} {R : Int}, (∀ i ∈ b, isFlat i) → NP b ∧ RP R b
  | [], _, _ => by rw [NP, RP]; exact ⟨trivial, trivial⟩
  | i :: r, R, h => by
    have h1 := h i List.mem_cons_self
    obtain ⟨a, c⟩ := flat_np (b := r) (R := R) fun j hj => h j (List.mem_cons_of_mem _ hj)
    rw [NP_cons, RP_cons]
    cases i with
    | step _ => rw [NI, RI]; exact ⟨⟨trivial, a⟩, trivial, c⟩
    | turn _ => rw [NI, RI]; exact ⟨⟨trivial, a⟩, trivial, c⟩
    | rep _ _ => exact absurd h1 id
theorem Flat.okR {b : List Ins} {N R : Nat} (h : Flat b N R) (hR : R ≤ 2 ^ 100) (M : Int) : PrR b 0 N M := ⟨h.ok hR, (flat_np (R := M) h.flat).1, (flat_np h.flat).2⟩
theorem PrR.app {b c : List Ins} {k j N M : Nat} {R : Int} (h : PrR b k N R) (h2 : PrR c j M R) : PrR (b ++ c) (max k j) (N + M) R := ⟨h.ok.app h2.ok, NP_app _ _ h.nn h2.nn, RP_app _ _ h.rp h2.rp⟩
theorem PrR.rep {b : List Ins} {k N : Nat} {R : Int} (h : PrR b k N R) (hN : N ≤ 1024) {n : Int} (hn : n.natAbs ≤ 2 ^ 100) (h0 : 0 ≤ n) (h9 : n ≤ R) : PrR [.rep n b] (k + 1) (N + 1) R := by
  refine ⟨h.ok.rep hN hn, ?_, ?_⟩
  · rw [NP_cons, NI, NP]
    exact ⟨⟨h0, h.nn⟩, trivial⟩
  · rw [RP_cons, RI, RP]
    exact ⟨⟨h9, h.rp⟩, trivial⟩
theorem PrR.up {b : List Ins} {k N k' N' : Nat} {R : Int} (h : PrR b k N R) (a : k ≤ k') (c : N ≤ N') : PrR b k' N' R := ⟨h.ok.up a c, h.nn, h.rp⟩
mutual
theorem RI_up {R R' : Int} (h : R ≤ R') : ∀ (i : Ins), RI R i → RI R' i
  | .step _, _ => by rw [RI]; trivial
  | .turn _, _ => by rw [RI]; trivial
  | .rep n b, z => by
    rw [RI] at z ⊢
    exact ⟨Int.le_trans z.1 h, RP_up h b z.2⟩
theorem RP_up {R R' : Int} (h : R ≤ R') : ∀ (b : List Ins), RP R b → RP R' b
  | [], _ => by rw [RP]; trivial
  | i :: r, z => by
    rw [RP_cons] at z ⊢
    exact ⟨RI_up h i z.1, RP_up h r z.2⟩
end
/-- at most so many executed: instructions times the rounds around them -/
theorem ex_bd {R : Nat} (hR : 1 ≤ R) : ∀ (k : Nat) (b : List Ins), dpP b ≤ k → NP b → RP R b → exP b ≤ ((cnP b * R ^ k : Nat) : Int)
  | k, [], _, _, _ => by rw [exP_nil]; omega
  | k, i :: r, hd, hn, hr => by
    rw [dpP_cons] at hd
    rw [NP_cons] at hn
    rw [RP_cons] at hr
    have h2 := ex_bd hR k r (by omega) hn.2 hr.2
    have hp : 1 ≤ R ^ k := Nat.one_le_pow _ _ hR
    have h1 : exI i ≤ ((cnI i * R ^ k : Nat) : Int) := by
      cases i with
      | step c =>
        rw [exI, cnI]
        omega
      | turn c =>
        rw [exI, cnI]
        omega
      | rep n bb =>
        have hd1 : dpP bb + 1 ≤ k := by
          have := hd
          rw [dpI] at this
          omega
        have hn1 := hn.1
        have hr1 := hr.1
        rw [NI] at hn1
        rw [RI] at hr1
        have h3 := ex_bd hR (k - 1) bb (by omega) hn1.2 hr1.2
        rw [exI, cnI]
        have e : R ^ k = R * R ^ (k - 1) := by
          rw [show k = k - 1 + 1 by omega, Nat.pow_succ, Nat.mul_comm]
          rfl
        have h4 : n * exP bb ≤ (R : Int) * ((cnP bb * R ^ (k - 1) : Nat) : Int) := Int.le_trans (Int.mul_le_mul_of_nonneg_right hr1.1 (exP_nn bb hn1.2)) (Int.mul_le_mul_of_nonneg_left h3 (by omega))
        have e2 : (R : Int) * ((cnP bb * R ^ (k - 1) : Nat) : Int) = ((cnP bb * R ^ k : Nat) : Int) := by
          rw [e, ← Int.natCast_mul]
          congr 1
          rw [← Nat.mul_assoc, ← Nat.mul_assoc, Nat.mul_comm R]
        rw [e2] at h4
        have : cnP bb * R ^ k ≤ (cnP bb + 1) * R ^ k := Nat.mul_le_mul_right _ (Nat.le_succ _)
        omega
    rw [exP_cons, cnP_cons, Nat.add_mul]
    omega
termination_by k b => (k, b.length)
/-! ### promises -/
def sp__law_programR (K : PySem.W.Frag) : Sp := fun vs H Q _ => ∃ (p c : Addr) (most reach rounds : Int) (n : Nat), vs = [.ref p, .int most, .int reach, .int rounds] ∧ 0 ≤ most ∧ most ≤ 50 ∧ 0 ≤ reach ∧ reach ≤ 10 ^ 30 ∧ 0 ≤ rounds ∧ rounds ≤ 10 ^ 30 ∧ PenAt H p c n ∧ n < 2 ^ 38 ∧
  ∀ F xs b H', Kp p H H' → PenAt H' p c (n + 2000) → H' F = some (.lst xs) → IVs K H' xs b → PrR b 2 (13 * most.toNat + 6) rounds → Q (.ref F) H'
def sp_unrolled (K : PySem.W.Frag) (k : Nat) : Sp := fun vs H Q _ => ∃ (v : V) (b : List Ins), vs = [v] ∧ PV K H v b ∧ dpP b < k ∧ NP b ∧ exP b ≤ 10000 ∧
  ∀ D ys H', Same H H' → H D = none → H' D = some (.lst ys) → FIs K H' ys (unP b) → Q (.ref D) H'
def sp_effect_of (K : PySem.W.Frag) : Sp := fun vs H Q _ => ∃ (p : Int) (v : V) (b : List Ins), vs = [.int p, v] ∧ 0 < p ∧ PV K H v b ∧ dpP b < 3 ∧ WP b ∧ b.length ≤ 1024 ∧ NP b ∧ exP b ≤ 10000 ∧
  ∀ u H' g, Same H H' → TEff K H' u g (shP b) → Nf p g (seP b) → g.length ≤ 10000 → Q u H'
/-- a dict of dials: distinct places, worth F modulo p -/
structure Dials (p : Int) (m : Pol) (F : Int → Int) : Prop where
  nd : (m.map (·.1)).Nodup
  wo : ∀ x, cf m x = F x % p
def sp__law_run (K : PySem.W.Frag) (k : Nat) : Sp := fun vs H Q _ => ∃ (p : Int) (v : V) (pl : Int) (b : List Ins), vs = [.int p, v, .int pl] ∧ 0 < p ∧ PV K H v b ∧ dpP b < k ∧ NP b ∧ RP 1000000 b ∧ exP b ≤ 100000 ∧
  ∀ t d H' m, Same H H' → H' t = some (.tup [.ref d, .int (pl + shP b)]) → H d = none → H' d = some (.dK (kvOf m)) → Dials p m (fun x => seP b (x - pl)) → (m.length : Int) ≤ exP b → Q (.ref t) H'
def sp__law_ran (K : PySem.W.Frag) : Sp := fun vs H Q _ => ∃ (p : Int) (v : V) (b : List Ins), vs = [.int p, v] ∧ 0 < p ∧ PV K H v b ∧ dpP b < 3 ∧ NP b ∧ RP 1000000 b ∧ exP b ≤ 100000 ∧
  ∀ u H' g, Same H H' → TEff K H' u g (shP b) → Nf p g (seP b) → Q u H'
end DR
namespace DR
open PySem PySem.Spec PyProof.Rows L2
section
variable {prog : Program} {w : World} {A : Around} {E : Value → Shared → Prop} {s : Shared}
/-- the items of a tuple, gathered: the heap is told -/
abbrev gathered (h : Heap) (arr : Array Value) : Heap := (h.push { cls := .type "list", data := .seq ([] : List Value).toArray }).update h.objs.size (Obj.mapSeq (· ++ arr))
theorem gathered_size (h : Heap) (arr : Array Value) : (gathered h arr).objs.size = h.objs.size + 1 := by
  show (Heap.update _ _ _).objs.size = _
  simp only [Heap.size_update, size_push']
theorem gathered_old {h : Heap} {arr : Array Value} {b : Addr} {u : Obj} (e : h.get? b = some u) : (gathered h arr).get? b = some u := by
  have := Nat.ne_of_gt (Heap.lt_size e)
  exact (Heap.get?_update_other _ _ this).trans (Heap.get?_push_of_some _ e)
theorem collect_tup {t : Addr} {arr : Array Value} {R : List Value → Shared → Prop} (ht : IsTup s.heap t arr) (hz : arr.size ≤ sizeLine) (k : R arr.toList { s with heap := gathered s.heap arr }) : wpAny (model prog w) A (collect (.ref t)) R E s := by
  obtain ⟨ob, h1, h2, c, h3⟩ := ht
  have hN : (s.heap.push { cls := .type "list", data := .seq ([] : List Value).toArray }).get? s.heap.objs.size = some { cls := .type "list", data := .seq #[] 0 } := Heap.get?_push_size _ rfl
  have hN2 := Heap.get?_update_self (Obj.mapSeq (· ++ arr)) hN rfl
  unfold collect
  have plain := Around.under_plainId (A := A) PySem.F.plain_proto_collect
  refine wpAny_bind (wpAny_runValue (codeAny_builtin PySem.F.entry_proto_collect ?_))
  rw [plain _]
  refine wpAny_bind (m := newList []) (wpAny_newObj_type (wpAny_pure ⟨plainId_quiet PySem.F.plain_list_iadd _, codeAny_builtin PySem.F.entry_list_iadd ?_⟩))
  rw [Around.under_plainId PySem.F.plain_list_iadd _]
  have last : ∀ s2 : Shared, s2 = { s with heap := gathered s.heap arr } → wpAny (model prog w) A (do match (← load s.heap.objs.size).data with | Data.seq xs _ => pure xs.toList | _ => unsupported "internal:collect") R E s2 := by
    rintro s2 rfl
    refine wpAny_bind (wpAny_load hN2 (wpAny_pure ?_))
    have e : ((#[] : Array Value) ++ arr).toList = arr.toList := by simp
    show R ((#[] : Array Value) ++ arr).toList _
    rw [e]
    exact k
  have ext := wpAny_extend_seq (prog := prog) (w := w) (A := A) (R := fun r s' => r = .ok (.ret (.ref s.heap.objs.size)) ∧ s' = { s with heap := gathered s.heap arr }) (s := { s with heap := s.heap.push { cls := .type "list", data := .seq ([] : List Value).toArray } }) _ t (.ref s.heap.objs.size) 0 (.inr rfl) hN (Heap.get?_push_of_some _ h1) h2 h3 ⟨rfl, rfl⟩ hz
  refine wpAny_mono ext (fun fin s' z => ?_) fun e s' z => absurd z.1 (by simp)
  cases fin with
  | done f =>
    obtain ⟨q, e2⟩ := z
    cases q
    exact last _ e2
  | again c' => exact ⟨z.1, codeAny_mono z.2 fun r s2 y => by
      obtain ⟨q, e2⟩ := y
      subst q
      exact last _ e2⟩
/-- sorted of a tuple of pairs: a new list of them in some order -/
theorem sorted_tup {t : Addr} {pairs : List Value} {after : Value → Shared → Prop} (there : IsTup s.heap t pairs.toArray) (room : pairs.length ≤ sizeLine) (each : ∀ v ∈ pairs, ∃ x y, Srt.IsPair s.heap v x y)
    (next : ∀ (g : Heap) (p : Addr) (out : List Value) (stamp : Nat), out.Perm pairs → (∀ b u, s.heap.get? b = some u → g.get? b = some u) → s.heap.objs.size ≤ p → g.get? p = some (seqObj "list" out.toArray stamp) → after (.ref p) { s with heap := g }) :
    wpAny (model prog w) A (call (.builtin "sorted") [.ref t]) after E s := by
  have fit : pairs.toArray.size ≤ sizeLine := by rw [List.size_toArray]; exact room
  refine Calls.call_function_entry kind_sorted plain_sorted entry_sorted (args_sorted1 _) ?_
  unfold Builtin.«sorted»
  refine wpAny_bind (m := checkCount "sorted" 1 1 _) (wpAny_pure (wpAny_bind (collect_tup there fit (wpAny_bind (wpAny_newList ?_ room)))))
  have stay : ∀ b u, s.heap.get? b = some u → (gathered s.heap pairs.toArray).get? b = some u := fun b u old => gathered_old old
  have above : s.heap.objs.size ≤ (gathered s.heap pairs.toArray).objs.size := by rw [gathered_size]; omega
  generalize gathered s.heap pairs.toArray = g at stay above
  have laid : (g.push (seqObj "list" pairs.toArray 0)).get? g.objs.size = some (seqObj "list" pairs.toArray 0) := Heap.get?_push_size _ rfl
  have keep : ∀ b u, s.heap.get? b = some u → (g.push (seqObj "list" pairs.toArray 0)).get? b = some u := fun b u old => Heap.get?_push_of_some _ (stay b u old)
  have able := fun two : 0 < pairs.length => Srt.pairs_sortable (prog := prog) (w := w) (A := A.in1.in1) (s := { s with heap := g.push (seqObj "list" pairs.toArray 0) }) (a := g.objs.size) (vs := pairs) two
    (fun v hv => by
      obtain ⟨x, y, p⟩ := each v hv
      exact ⟨x, y, p.keeps fun b u old _ => keep b u old⟩)
    (fun u hu => by
      have q : some (seqObj "list" pairs.toArray 0) = some u := laid.symm.trans hu
      cases q
      exact fun c => absurd (Value.type.inj c) (by decide))
  refine wpAny_bind (wpAny_holding (wpAny_call_entry slot_list_sort ⟨_, laid, rfl⟩ entry_list_sort (Srt.list_sort_any laid room (fun two => able (by omega)) fun out perm => ⟨_, rfl, ?_⟩) (args_list_sort _)))
  obtain ⟨stamp, found⟩ := sortedHeap_at (vs := pairs) (out := out.toArray) laid
  refine wpAny_pure ⟨_, rfl, next _ _ out stamp perm (fun b u old => ?_) above found⟩
  have below : b < g.objs.size := Heap.lt_size (stay b u old)
  have wider : b < (g.push (seqObj "list" pairs.toArray 0)).objs.size := by
    rw [size_push']
    exact Nat.lt_succ_of_lt below
  exact (sortedHeap_old (Nat.ne_of_lt below) wider).trans (keep b u old)
end
section
variable {X : Cx}
/-- sorted(t), t a tuple of pairs of ints: a new list of the same pairs, in some order -/
def rSortTP (K : PySem.W.Frag) : List V → Hp → VK → Prop := fun vs H Q => ∃ a xs, vs = [V.ref a] ∧ SqT K H a xs ∧ (∀ x ∈ xs, ∃ t i j, x = V.ref t ∧ SqT K H t [.int i, .int j]) ∧
  ∀ (ys : List V) (new : Addr), ys.Perm xs → H new = none → Q (.ref new) (upd H new (.lst ys))
theorem cr_sortTP : CallR X (.builtin "sorted") (rSortTP X.K) := by
  intro pins now σ G given us K I r told
  obtain ⟨t, xs, rfl, seen, pairs, told⟩ := told
  obtain ⟨items, alike, there, room⟩ := I.tuple seen
  have len := alike.length
  rw [Vals.ref1 r]
  obtain ⟨back, refs⟩ := refs_back alike fun x hx => by
    obtain ⟨q, _, _, e, _⟩ := pairs x hx
    exact ⟨q, e⟩
  refine sorted_tup there (by omega) (fun v hv => ?_) fun g p out stamp perm old above found => ?_
  · obtain ⟨q, rfl⟩ := refs v hv
    have hx : V.ref q ∈ xs := back ▸ List.mem_map.mpr ⟨_, hv, rfl⟩
    obtain ⟨_, i, j, e, two⟩ := pairs _ hx
    cases e
    obtain ⟨parts, like, ⟨u, hu, cls, n, data⟩, _⟩ := I.tuple two
    obtain ⟨_, _, rfl, ⟨m1, rfl⟩, ⟨m2, rfl⟩⟩ := vals2 like
    exact ⟨i, j, q, u, m1, m2, n, rfl, hu, cls, data⟩
  · have fit : (out.map backV).length ≤ sizeLine := by
      rw [List.length_map, perm.length_eq]
      omega
    have same : (out.map backV).Perm xs := back ▸ perm.map backV
    exact ⟨.ref p, _, I.laid (t' := now.toks) (o := .lst (out.map backV)) old above ⟨fit, out, stamp, vals_back fun u hu => refs u (perm.subset hu), found⟩, rfl, told _ p same (I.hok.fresh above)⟩
end
end DR
namespace DR
open PySem PySem.Spec PyProof.Rows L2
/-! ### sums over rounds -/
theorem rsum_zero (s : Int) : ∀ (n : Nat) (x : Int), rsum (fun _ => 0) s n x = 0
  | 0, _ => rfl
  | n + 1, x => by
    show rsum _ s n x + 0 = 0
    rw [rsum_zero s n x]
    rfl
theorem rsum_add (f g : Int → Int) (s : Int) : ∀ (n : Nat) (x : Int), rsum (fun y => f y + g y) s n x = rsum f s n x + rsum g s n x
  | 0, _ => rfl
  | n + 1, x => by
    show rsum _ s n x + (f _ + g _) = (rsum f s n x + f _) + (rsum g s n x + g _)
    rw [rsum_add f g s n x]
    omega
theorem rsum_mul (c : Int) (f : Int → Int) (s : Int) : ∀ (n : Nat) (x : Int), rsum (fun y => c * f y) s n x = c * rsum f s n x
  | 0, _ => by show 0 = c * 0; rw [Int.mul_zero]
  | n + 1, x => by
    show rsum _ s n x + c * f _ = c * (rsum f s n x + f _)
    rw [rsum_mul c f s n x, Int.mul_add]
theorem rsum_move (f : Int → Int) (s c : Int) : ∀ (n : Nat) (x : Int), rsum (fun y => f (y - c)) s n x = rsum f s n (x - c)
  | 0, _ => rfl
  | n + 1, x => by
    show rsum _ s n x + f (x - n * s - c) = rsum f s n (x - c) + f (x - c - n * s)
    rw [rsum_move f s c n x]
    congr 2
    omega
theorem rsum_swap (f : Int → Int) (a b : Int) (n : Nat) : ∀ (m : Nat) (x : Int), rsum (fun y => rsum f a n y) b m x = rsum (fun y => rsum f b m y) a n x
  | 0, x => by
    show 0 = rsum (fun _ => 0) a n x
    rw [rsum_zero]
  | m + 1, x => by
    show rsum _ b m x + rsum f a n (x - m * b) = rsum (fun y => rsum f b m y + f (y - m * b)) a n x
    rw [rsum_add (fun y => rsum f b m y) (fun y => f (y - m * b)), rsum_swap f a b n m x, rsum_move]
theorem rsum_const (f : Int → Int) : ∀ (n : Nat) (x : Int), rsum f 0 n x = n * f x
  | 0, x => by show 0 = _; simp
  | n + 1, x => by
    show rsum f 0 n x + f (x - n * 0) = _
    rw [rsum_const f n x, Int.mul_zero, Int.sub_zero, Int.natCast_succ, Int.add_mul, Int.one_mul]
/-- counted from the last one -/
theorem rsum_head (f : Int → Int) (s : Int) : ∀ (n : Nat) (x : Int), rsum f s (n + 1) x = f x + rsum f s n (x - s)
  | 0, x => by
    show 0 + f (x - ((0 : Nat) : Int) * s) = f x + 0
    rw [Int.zero_add, Int.add_zero]
    congr 1
    simp
  | n + 1, x => by
    show rsum f s (n + 1) x + f (x - ((n + 1 : Nat) : Int) * s) = f x + (rsum f s n (x - s) + f (x - s - n * s))
    rw [rsum_head f s n x, Int.add_assoc]
    congr 3
    rw [Int.natCast_succ, Int.add_mul, Int.one_mul]
    omega
theorem rsum_back (f : Int → Int) (s : Int) : ∀ (n : Nat) (x : Int), rsum f s (n + 1) x = rsum f (-s) (n + 1) (x - n * s)
  | 0, x => by
    show 0 + f _ = 0 + f _
    congr 2
    simp
  | n + 1, x => by
    rw [rsum_head f (-s) (n + 1)]
    show rsum f s (n + 1) x + f (x - ((n + 1 : Nat) : Int) * s) = _
    rw [rsum_back f s n x, Int.add_comm]
    congr 2
    rw [Int.natCast_succ, Int.add_mul, Int.one_mul]
    omega
/-! ### how many ways rounds reach a place -/
def wy : Pol → Int → Int
  | [], d => if d = 0 then 1 else 0
  | r :: rs, d => rsum (fun y => wy rs y) r.2 r.1.toNat d
theorem wy_nil (d : Int) : wy [] d = if d = 0 then 1 else 0 := rfl
theorem wy_cons (r : Int × Int) (rs : Pol) (d : Int) : wy (r :: rs) d = rsum (fun y => wy rs y) r.2 r.1.toNat d := rfl
theorem wy_perm {r r' : Pol} (h : r.Perm r') : ∀ d, wy r d = wy r' d := by
  induction h with
  | nil => exact fun _ => rfl
  | cons x _ ih =>
    intro d
    rw [wy_cons, wy_cons]
    exact rsum_congr ih _ _
  | swap x y l =>
    intro d
    rw [wy_cons, wy_cons, rsum_congr (g := fun z => rsum (fun w => wy l w) x.2 x.1.toNat z) (fun z => wy_cons x l z), rsum_congr (g := fun z => rsum (fun w => wy l w) y.2 y.1.toNat z) (fun z => wy_cons y l z) x.1.toNat d]
    exact rsum_swap (fun w => wy l w) x.2 y.2 x.1.toNat y.1.toNat d
  | trans _ _ h1 h2 => exact fun d => (h1 d).trans (h2 d)
theorem rsum_bd {f : Int → Int} {s : Int} {M : Int} (h : ∀ x, 0 ≤ f x ∧ f x ≤ M) : ∀ (n : Nat) (x : Int), 0 ≤ rsum f s n x ∧ rsum f s n x ≤ n * M
  | 0, x => by show 0 ≤ 0 ∧ 0 ≤ _; simp
  | n + 1, x => by
    have h1 := rsum_bd h (s := s) n x
    have h2 := h (x - n * s)
    show 0 ≤ rsum f s n x + f _ ∧ rsum f s n x + f _ ≤ _
    rw [Int.natCast_succ, Int.add_mul, Int.one_mul]
    omega
/-- a term: place, coefficient, rounds -/
structure Tm where
  pl : Int
  co : Int
  rs : Pol
def tv (t : Tm) (x : Int) : Int := t.co * wy t.rs (x - t.pl)
def tvs (ts : List Tm) (x : Int) : Int := (ts.map fun t => tv t x).sum
theorem tvs_nil (x : Int) : tvs [] x = 0 := rfl
theorem tvs_app (a b : List Tm) (x : Int) : tvs (a ++ b) x = tvs a x + tvs b x := by
  unfold tvs
  rw [List.map_append, List.sum_append]
/-- what a term becomes if it is repeated -/
structure Repd (t : Tm) (n s : Int) (t' : Tm) : Prop where
  val : ∀ x, tv t' x = rsum (fun y => tv t y) s n.toNat x
theorem repd_zero {t : Tm} {n : Int} (hn : 0 < n) : Repd t n 0 ⟨t.pl, t.co * n, t.rs⟩ := ⟨fun x => by
  rw [rsum_const, Int.toNat_of_nonneg (by omega)]
  show t.co * n * _ = n * (t.co * _)
  rw [← Int.mul_assoc, Int.mul_comm n]⟩
theorem repd_one {t : Tm} {s : Int} : Repd t 1 s ⟨t.pl, t.co * 1, t.rs⟩ := ⟨fun x => by
  show t.co * 1 * wy t.rs _ = 0 + tv t (x - ((0 : Nat) : Int) * s)
  rw [Int.mul_one, Int.zero_add]
  show t.co * wy t.rs (x - t.pl) = t.co * wy t.rs (x - ((0 : Nat) : Int) * s - t.pl)
  congr 2
  simp⟩
theorem repd_pos {t : Tm} {n s : Int} {rs : Pol} (hp : rs.Perm (t.rs ++ [(n, s)])) : Repd t n s ⟨t.pl, t.co, rs⟩ := ⟨fun x => by
  show t.co * wy rs (x - t.pl) = rsum (fun y => t.co * wy t.rs (y - t.pl)) s n.toNat x
  rw [rsum_mul, rsum_move (fun z => wy t.rs z), wy_perm (hp.trans List.perm_append_comm)]
  rfl⟩
theorem repd_neg {t : Tm} {n s : Int} {rs : Pol} (hn : 0 < n) (hp : rs.Perm (t.rs ++ [(n, -s)])) : Repd t n s ⟨t.pl + (n - 1) * s, t.co, rs⟩ := ⟨fun x => by
  show t.co * wy rs (x - (t.pl + (n - 1) * s)) = rsum (fun y => t.co * wy t.rs (y - t.pl)) s n.toNat x
  rw [rsum_mul, rsum_move (fun z => wy t.rs z), wy_perm (hp.trans List.perm_append_comm)]
  obtain ⟨m, hm⟩ : ∃ m : Nat, n.toNat = m + 1 := ⟨n.toNat - 1, by omega⟩
  have hm2 : n - 1 = (m : Int) := by omega
  rw [hm, rsum_back, hm2]
  show t.co * rsum _ (-s) n.toNat _ = _
  rw [hm]
  congr 2
  omega⟩
theorem tvs_rep {n s : Int} : ∀ {ts ts' : List Tm}, Paired (fun t t' => Repd t n s t') ts ts' → ∀ x, tvs ts' x = rsum (fun y => tvs ts y) s n.toNat x
  | [], [], _, x => by
    show 0 = rsum (fun _ => 0) s n.toNat x
    rw [rsum_zero]
  | t :: ts, t' :: ts', .cons h q, x => by
    show tv t' x + tvs ts' x = rsum (fun y => tv t y + tvs ts y) s n.toNat x
    rw [rsum_add (fun y => tv t y) (fun y => tvs ts y), h.val, tvs_rep q]
/-! ### the count of pairs -/
theorem div_step {P : Int} (hP : 0 < P) (u : Int) : u / P - (u - 1) / P = if P ∣ u then 1 else 0 := by
  by_cases h : P ∣ u
  · rw [if_pos h]
    obtain ⟨k, rfl⟩ := h
    have e1 : P * k / P = k := Int.mul_ediv_cancel_left k (by omega)
    have e2 : (P * k - 1) / P = k - 1 := by
      have : P * k - 1 = (P - 1) + P * (k - 1) := by rw [Int.mul_sub, Int.mul_one]; omega
      rw [this, Int.add_mul_ediv_left _ _ (by omega), Int.ediv_eq_zero_of_lt (by omega) (by omega)]
      omega
    rw [e1, e2]
    omega
  · rw [if_neg h]
    have h1 := Int.emod_add_mul_ediv u P
    have h2 := Int.emod_nonneg u (show P ≠ 0 by omega)
    have h3 := Int.emod_lt_of_pos u hP
    have h4 : u % P ≠ 0 := fun z => h (Int.dvd_of_emod_eq_zero z)
    generalize u % P = r at h1 h2 h3 h4
    have e : (u - 1) / P = u / P := by
      generalize u / P = q at h1
      have : u - 1 = (r - 1) + P * q := by omega
      rw [this, Int.add_mul_ediv_left _ _ (by omega), Int.ediv_eq_zero_of_lt (by omega) (by omega), Int.zero_add]
    omega
theorem div_mono {P : Int} (hP : 0 < P) {u v : Int} (h : u ≤ v) : u / P ≤ v / P := Int.ediv_le_ediv hP h
def cnt (L G P r : Int) : Nat → Int
  | 0 => 0
  | n + 1 => cnt L G P r n + if L ≤ (n : Int) ∧ (n : Int) ≤ G ∧ P ∣ (n : Int) - r then 1 else 0
theorem cnt_eq {L G P r : Int} (hP : 0 < P) : ∀ n : Nat, cnt L G P r n = max 0 ((min ((n : Int) - 1) G - r) / P - (max 0 L - 1 - r) / P)
  | 0 => by
    have h := div_mono hP (u := min (((0 : Nat) : Int) - 1) G - r) (v := max 0 L - 1 - r) (by omega)
    show (0 : Int) = _
    omega
  | n + 1 => by
    show cnt L G P r n + _ = _
    rw [cnt_eq hP n]
    by_cases h1 : (n : Int) < max 0 L
    · rw [if_neg (by omega)]
      have a := div_mono hP (u := min ((n : Int) - 1) G - r) (v := max 0 L - 1 - r) (by omega)
      have b := div_mono hP (u := min (((n + 1 : Nat) : Int) - 1) G - r) (v := max 0 L - 1 - r) (by omega)
      omega
    · by_cases h2 : (n : Int) ≤ G
      · have e1 : min (((n + 1 : Nat) : Int) - 1) G = (n : Int) := by omega
        have e2 : min ((n : Int) - 1) G = (n : Int) - 1 := by omega
        rw [e1, e2]
        have a := div_mono hP (u := max 0 L - 1 - r) (v := (n : Int) - 1 - r) (by omega)
        have b := div_mono hP (u := max 0 L - 1 - r) (v := (n : Int) - r) (by omega)
        have c := div_step hP ((n : Int) - r)
        rw [show (n : Int) - r - 1 = (n : Int) - 1 - r by omega] at c
        by_cases h3 : P ∣ (n : Int) - r
        · rw [if_pos ⟨by omega, h2, h3⟩]
          rw [if_pos h3] at c
          omega
        · rw [if_neg (fun z => h3 z.2.2)]
          rw [if_neg h3] at c
          omega
      · rw [if_neg (by omega)]
        have e1 : min (((n + 1 : Nat) : Int) - 1) G = G := by omega
        have e2 : min ((n : Int) - 1) G = G := by omega
        rw [e1, e2, Int.add_zero]
/-- one round -/
theorem wy_one {b : Int} (hb : 0 < b) : ∀ (m : Nat) (e : Int), rsum (fun y => if y = 0 then (1 : Int) else 0) b m e = if b ∣ e ∧ 0 ≤ e ∧ e < m * b then 1 else 0
  | 0, e => by
    rw [if_neg (by rintro ⟨_, h1, h2⟩; simp at h2; omega)]
    rfl
  | m + 1, e => by
    show rsum _ b m e + (if e - m * b = 0 then 1 else 0) = _
    rw [wy_one hb m e, Int.natCast_succ, Int.add_mul, Int.one_mul]
    have hmb : 0 ≤ (m : Int) * b := Int.mul_nonneg (by omega) (by omega)
    by_cases h : e - m * b = 0
    · have he : e = m * b := by omega
      rw [if_pos h, if_neg (by omega), if_pos ⟨by rw [he]; exact Int.dvd_mul_left _ _, by omega, by omega⟩]
      try rfl
    · rw [if_neg h, Int.add_zero]
      by_cases h2 : b ∣ e ∧ 0 ≤ e ∧ e < m * b
      · rw [if_pos h2, if_pos ⟨h2.1, h2.2.1, by omega⟩]
      · rw [if_neg h2, if_neg fun z => ?_]
        obtain ⟨k, rfl⟩ := z.1
        apply h2
        refine ⟨z.1, z.2.1, ?_⟩
        have h3 : b * k < b * ((m : Int) + 1) := by rw [Int.mul_add, Int.mul_one, Int.mul_comm b m]; exact z.2.2
        have h4 : k < (m : Int) + 1 := Int.lt_of_mul_lt_mul_left h3 (by omega)
        have h5 : k ≠ (m : Int) := fun q => h (by rw [q, Int.mul_comm]; omega)
        have h6 : b * k < b * (m : Int) := Int.mul_lt_mul_of_pos_left (by omega) hb
        rw [Int.mul_comm b m] at h6
        exact h6
/-- two rounds: the pairs of an equation -/
theorem wy_two {a b d g f : Int} {m : Nat} (ha : 0 < a) (hb : 0 < b) (hg : 0 < g) (ga : g ∣ a) (gb : g ∣ b) (hf : b ∣ a * f - g) (gd : g ∣ d) : ∀ n : Nat,
    rsum (fun y => rsum (fun z => if z = 0 then (1 : Int) else 0) b m y) a n d = cnt (-((b * ((m : Int) - 1) - d) / a)) (d / a) (b / g) (d / g * f % (b / g)) n
  | 0 => rfl
  | n + 1 => by
    show rsum _ a n d + rsum _ b m (d - n * a) = cnt _ _ _ _ n + _
    rw [wy_two ha hb hg ga gb hf gd n, wy_one hb]
    congr 1
    obtain ⟨a', rfl⟩ := ga
    obtain ⟨P, rfl⟩ := gb
    obtain ⟨d', rfl⟩ := gd
    have hP : 0 < P := Int.pos_of_mul_pos_right hb (by omega)
    have e1 : g * P / g = P := Int.mul_ediv_cancel_left P (by omega)
    have e2 : g * d' / g = d' := Int.mul_ediv_cancel_left d' (by omega)
    rw [e1, e2]
    -- a' * f is 1 modulo P
    have hf' : P ∣ a' * f - 1 := by
      obtain ⟨t, ht⟩ := hf
      refine ⟨t, ?_⟩
      have : g * (a' * f - 1) = g * (P * t) := by
        rw [Int.mul_sub, Int.mul_one, ← Int.mul_assoc, ← Int.mul_assoc]
        exact ht
      exact Int.eq_of_mul_eq_mul_left (by omega) this
    have key : (g * P ∣ g * d' - n * (g * a')) ↔ P ∣ (n : Int) - d' * f % P := by
      have r1 : P ∣ (n : Int) - d' * f % P ↔ P ∣ (n : Int) - d' * f := by
        have h := Int.emod_add_mul_ediv (d' * f) P
        constructor
        · rintro ⟨t, ht⟩
          exact ⟨t - d' * f / P, by rw [Int.mul_sub]; omega⟩
        · rintro ⟨t, ht⟩
          exact ⟨t + d' * f / P, by rw [Int.mul_add]; omega⟩
      rw [r1]
      obtain ⟨t, ht⟩ := hf'
      have e3 : g * d' - (n : Int) * (g * a') = g * (d' - n * a') := by
        rw [Int.mul_sub, ← Int.mul_assoc, ← Int.mul_assoc, Int.mul_comm (n : Int) g]
      rw [e3]
      constructor
      · rintro ⟨u, hu⟩
        rw [Int.mul_assoc] at hu
        have hu' : d' - n * a' = P * u := Int.eq_of_mul_eq_mul_left (by omega) hu
        -- n = n a' f - n P t ; d' f = (P u + n a') f
        refine ⟨-(u * f) - n * t, ?_⟩
        have h5 : d' = P * u + n * a' := by omega
        rw [h5, Int.add_mul, Int.mul_sub, Int.mul_neg]
        have h6 : (n : Int) * a' * f = n * (P * t) + n := by
          rw [Int.mul_assoc, show a' * f = P * t + 1 by omega, Int.mul_add, Int.mul_one]
        rw [h6, ← Int.mul_assoc P u f, ← Int.mul_assoc (n : Int) P t, ← Int.mul_assoc P (n : Int) t, Int.mul_comm P (n : Int)]
        omega
      · rintro ⟨u, hu⟩
        refine ⟨-(u * a') - d' * t, ?_⟩
        rw [Int.mul_assoc]
        congr 1
        have h5 : (n : Int) = P * u + d' * f := by omega
        have h6 : d' * f * a' = d' * (P * t) + d' := by
          rw [Int.mul_assoc, Int.mul_comm f a', show a' * f = P * t + 1 by omega, Int.mul_add, Int.mul_one]
        rw [h5, Int.add_mul, h6, Int.mul_sub, Int.mul_neg, ← Int.mul_assoc P u a', ← Int.mul_assoc d' P t, ← Int.mul_assoc P d' t, Int.mul_comm P d']
        omega
    have low : (0 ≤ g * d' - n * (g * a')) ↔ (n : Int) ≤ g * d' / (g * a') := by
      rw [Int.le_ediv_iff_mul_le ha]
      omega
    have high : g * P ∣ g * d' - n * (g * a') → ((g * d' - n * (g * a') < m * (g * P)) ↔ -((g * P * ((m : Int) - 1) - g * d') / (g * a')) ≤ (n : Int)) := by
      rintro ⟨u, hu⟩
      have h1 : (g * d' - n * (g * a') < m * (g * P)) ↔ g * d' - n * (g * a') ≤ g * P * ((m : Int) - 1) := by
        rw [hu, Int.mul_comm (m : Int)]
        constructor
        · intro h
          have := Int.lt_of_mul_lt_mul_left h (by omega)
          exact Int.mul_le_mul_of_nonneg_left (by omega) (by omega)
        · intro h
          have := Int.le_of_mul_le_mul_left h hb
          exact Int.mul_lt_mul_of_pos_left (by omega) hb
      rw [h1]
      have h2 : -(n : Int) ≤ (g * P * ((m : Int) - 1) - g * d') / (g * a') ↔ -(n : Int) * (g * a') ≤ g * P * ((m : Int) - 1) - g * d' := Int.le_ediv_iff_mul_le ha
      rw [Int.neg_mul] at h2
      constructor
      · intro h
        have := h2.mpr (by omega)
        omega
      · intro h
        have := h2.mp (by omega)
        omega
    by_cases hd : g * P ∣ g * d' - n * (g * a')
    · have hh := high hd
      by_cases hc : 0 ≤ g * d' - n * (g * a') ∧ g * d' - n * (g * a') < m * (g * P)
      · rw [if_pos ⟨hd, hc⟩, if_pos ⟨hh.mp hc.2, low.mp hc.1, key.mp hd⟩]
      · rw [if_neg (fun z => hc z.2), if_neg (fun z => hc ⟨low.mpr z.2.1, hh.mpr z.1⟩)]
    · rw [if_neg (fun z => hd z.1), if_neg (fun z => hd (key.mpr z.2.2))]
/-- no pair where the divisor does not divide -/
theorem wy_none {a b d g : Int} {m : Nat} (hb : 0 < b) (ga : g ∣ a) (gb : g ∣ b) (gd : ¬ g ∣ d) : ∀ n : Nat, rsum (fun y => rsum (fun z => if z = 0 then (1 : Int) else 0) b m y) a n d = 0
  | 0 => rfl
  | n + 1 => by
    show rsum _ a n d + rsum _ b m (d - n * a) = 0
    rw [wy_none hb ga gb gd n, wy_one hb, if_neg fun z => ?_]
    · rfl
    · obtain ⟨a', rfl⟩ := ga
      have h1 := Int.dvd_trans gb z.1
      have h2 : g ∣ (n : Int) * (g * a') := ⟨n * a', by rw [← Int.mul_assoc, ← Int.mul_assoc, Int.mul_comm (n : Int) g]⟩
      have h3 := Int.dvd_add h1 h2
      rw [Int.sub_add_cancel] at h3
      exact gd h3
end DR
namespace DR
open PySem PySem.Spec PyProof.Rows L2
theorem ediv_bd {d g : Int} (hg : 0 < g) : (d / g).natAbs ≤ d.natAbs := by
  have h1 := Int.emod_add_mul_ediv d g
  have h2 := Int.emod_nonneg d (show g ≠ 0 by omega)
  have h3 := Int.emod_lt_of_pos d hg
  by_cases h0 : 0 ≤ d
  · have a := Int.ediv_nonneg h0 (show 0 ≤ g by omega)
    have b := Int.ediv_le_self g h0
    omega
  · have a : d ≤ d / g := (Int.le_ediv_iff_mul_le hg).mpr (by
      have := Int.mul_le_mul_of_nonpos_left (show d ≤ 0 by omega) (show (1 : Int) ≤ g by omega)
      rw [Int.mul_one] at this
      exact this)
    have b : d / g < 0 := Int.ediv_neg_of_neg_of_pos (by omega) hg
    omega
def RsOk (rs : Pol) : Prop := ∀ r ∈ rs, 1 ≤ r.1 ∧ r.1 ≤ 2 ^ 100 ∧ 1 ≤ r.2 ∧ r.2 ≤ 2 ^ 331
def TermV (K : PySem.W.Frag) (H : Hp) (v : V) (t : Tm) : Prop := ∃ a x, v = .ref a ∧ SqT K H a [.int t.pl, .int t.co, x] ∧ TPol K H x t.rs
abbrev TVs (K : PySem.W.Frag) (H : Hp) : List V → List Tm → Prop := Paired (TermV K H)
section
variable {K : PySem.W.Frag} {H H' : Hp} {v x : V} {t : Tm} {xs ys : List V} {ts us : List Tm}
theorem TermV.tp (e : Tp H H') (h : TermV K H v t) : TermV K H' v t := by
  obtain ⟨a, x, rfl, hs, hx⟩ := h
  exact ⟨a, x, rfl, tp_t e hs, hx.tp e⟩
theorem TVs.tp (e : Tp H H') : ∀ {xs : List V} {ts : List Tm}, TVs K H xs ts → TVs K H' xs ts
  | _, _, .nil => .nil
  | _, _, .cons r q => .cons (r.tp e) (TVs.tp e q)
theorem TVs.app : ∀ {xs : List V} {ts : List Tm}, TVs K H xs ts → TVs K H ys us → TVs K H (xs ++ ys) (ts ++ us)
  | _, _, .nil, h => h
  | _, _, .cons r q, h => .cons r (TVs.app q h)
theorem TVs.len (h : TVs K H xs ts) : xs.length = ts.length := Paired.length h
theorem TVs.get : ∀ {xs : List V} {ts : List Tm} {i : Nat} {x : V}, TVs K H xs ts → xs[i]? = some x → ∃ t, ts[i]? = some t ∧ TermV K H x t
  | _, _, _, _, .nil, e => by simp at e
  | _, _, 0, _, .cons r _, e => by
    simp at e
    subst e
    exact ⟨_, rfl, r⟩
  | _, _, i + 1, x, .cons _ q, e => by
    obtain ⟨t, h1, h2⟩ := TVs.get (i := i) (x := x) q (by simpa using e)
    exact ⟨t, by simpa using h1, h2⟩
end
/-- bounds of a term of a program run from pl -/
structure TOk (k : Nat) (T pl : Int) (t : Tm) : Prop where
  at_ : ((t.pl - pl).natAbs : Int) ≤ T
  co : t.co.natAbs ≤ 2 ^ (100 * k)
  len : t.rs.length + 1 ≤ k
  rs : RsOk t.rs
theorem TOk.up {k k' : Nat} {T T' pl : Int} {t : Tm} (h : TOk k T pl t) (a : k ≤ k') (b : T ≤ T') : TOk k' T' pl t := ⟨Int.le_trans h.at_ b, Nat.le_trans h.co (pow_le2 (by omega)), Nat.le_trans h.len a, h.rs⟩
def sp_common_divisor : Sp := fun vs H Q _ => ∃ (a b : Int), vs = [.int a, .int b] ∧ 0 < a ∧ 0 < b ∧ a.natAbs < 2 ^ 400 ∧ b.natAbs < 2 ^ 400 ∧
  ∀ t H' g f, Same H H' → H' t = some (.tup [.int g, .int f]) → 0 < g → g ∣ a → g ∣ b → b ∣ a * f - g → f.natAbs ≤ b.natAbs → Q (.ref t) H'
def sp_pairs_at (K : PySem.W.Frag) : Sp := fun vs H Q _ => ∃ (x y : V) (n a m b d : Int), vs = [x, y, .int d] ∧ IsPr K H x (n, a) ∧ IsPr K H y (m, b) ∧ 1 ≤ n ∧ n ≤ 2 ^ 100 ∧ 1 ≤ m ∧ m ≤ 2 ^ 100 ∧ 1 ≤ a ∧ a ≤ 2 ^ 331 ∧ 1 ≤ b ∧ b ≤ 2 ^ 331 ∧ d.natAbs < 2 ^ 400 ∧
  ∀ H', Same H H' → Q (.int (wy [(n, a), (m, b)] d)) H'
def sp_ways_at (K : PySem.W.Frag) : Sp := fun vs H Q _ => ∃ (v : V) (rs : Pol) (d : Int), vs = [v, .int d] ∧ TPol K H v rs ∧ rs.length ≤ 2 ∧ RsOk rs ∧ d.natAbs < 2 ^ 400 ∧ ∀ H', Same H H' → Q (.int (wy rs d)) H'
def sp_repeated (K : PySem.W.Frag) : Sp := fun vs H Q _ => ∃ (v : V) (t : Tm) (n s : Int) (k : Nat) (T pl : Int), vs = [v, .int n, .int s] ∧ TermV K H v t ∧ TOk k T pl t ∧ k ≤ 2 ∧ 1 ≤ n ∧ n ≤ 2 ^ 100 ∧ (s.natAbs : Int) ≤ T ∧ s.natAbs ≤ 2 ^ 331 ∧
  ∀ u H' t', Same H H' → TermV K H' u t' → Repd t n s t' → TOk (k + 1) (n * T) pl t' → Q u H'
def sp_terms_of (K : PySem.W.Frag) (k : Nat) : Sp := fun vs H Q _ => ∃ (v : V) (pl : Int) (b : List Ins), vs = [v, .int pl] ∧ PV K H v b ∧ dpP b < k ∧ k ≤ 3 ∧ WP b ∧ NP b ∧ cnP b ≤ 1024 ∧
  ∀ D ys ts H', Same H H' → H D = none → H' D = some (.lst ys) → TVs K H' ys ts → (∀ x, tvs ts x = seP b (x - pl)) → (∀ t ∈ ts, TOk k (trP b) pl t) → ts.length ≤ cnP b → Q (.ref D) H'
def sp_value_of (K : PySem.W.Frag) : Sp := fun vs H Q _ => ∃ (p : Int) (D : Addr) (ys : List V) (ts : List Tm) (x pl T : Int), vs = [.int p, .ref D, .int x] ∧ 0 < p ∧ SqL K H D ys ∧ TVs K H ys ts ∧ ts.length ≤ 100000 ∧ (∀ t ∈ ts, TOk 3 T pl t) ∧ T.natAbs ≤ 2 ^ 330 ∧ (x - pl).natAbs ≤ 2 ^ 340 ∧
  ∀ H', Same H H' → Q (.int (tvs ts x % p)) H'
def sp_value_at (K : PySem.W.Frag) : Sp := fun vs H Q _ => ∃ (p : Int) (v : V) (x : Int) (b : List Ins), vs = [.int p, v, .int x] ∧ 0 < p ∧ PV K H v b ∧ dpP b < 3 ∧ WP b ∧ NP b ∧ cnP b ≤ 1024 ∧ x.natAbs ≤ 2 ^ 340 ∧
  ∀ H', Same H H' → Q (.int (seP b x % p)) H'
theorem wy_pad0 (d : Int) : wy [(1, 1), (1, 1)] d = wy [] d := by
  show (0 + (0 + if d - ((0 : Nat) : Int) * 1 - ((0 : Nat) : Int) * 1 = 0 then (1 : Int) else 0)) = if d = 0 then 1 else 0
  simp
theorem wy_pad1 (r : Int × Int) (d : Int) : wy [r, (1, 1)] d = wy [r] d := by
  rw [wy_cons, wy_cons]
  refine rsum_congr (fun y => ?_) _ _
  show (0 + if y - ((0 : Nat) : Int) * 1 = 0 then (1 : Int) else 0) = if y = 0 then 1 else 0
  simp
theorem wy_bd : ∀ (rs : Pol) (d : Int), 0 ≤ wy rs d ∧ wy rs d ≤ (rs.map fun r => (r.1.toNat : Int)).foldr (· * ·) 1
  | [], d => by
    rw [wy_nil]
    show _ ∧ _ ≤ (1 : Int)
    split <;> omega
  | r :: rs, d => by
    rw [wy_cons]
    exact rsum_bd (fun x => wy_bd rs x) _ _
theorem wy_lt {rs : Pol} (h : RsOk rs) (hl : rs.length ≤ 2) (d : Int) : (wy rs d).natAbs < 2 ^ 201 := by
  have hb := wy_bd rs d
  have e : ∀ r ∈ rs, (r.1.toNat : Int) ≤ 2 ^ 100 := fun r hr => by
    have := h r hr
    omega
  have hM : (rs.map fun r => (r.1.toNat : Int)).foldr (· * ·) 1 ≤ 2 ^ 200 := by
    match rs, hl, e with
    | [], _, _ => decide
    | [r], _, e =>
      have := e r (by simp)
      show (r.1.toNat : Int) * 1 ≤ _
      rw [Int.mul_one]
      exact Int.le_trans this (by decide +kernel)
    | [r, q], _, e =>
      have h1 := e r (by simp)
      have h2 := e q (by simp)
      show (r.1.toNat : Int) * ((q.1.toNat : Int) * 1) ≤ _
      rw [Int.mul_one]
      exact Int.le_trans (Int.mul_le_mul h1 h2 (by omega) (by decide +kernel)) (by decide +kernel)
  have h2 : (2 : Nat) ^ 200 < 2 ^ 201 := by decide +kernel
  have h3 : ((2 : Int) ^ 200) = ((2 ^ 200 : Nat) : Int) := by decide +kernel
  omega
/-- [an int for x, y, z in a list of terms] -/
theorem lcTm {K : PySem.W.Frag} {a : Addr} {xs : List V} {ts : List Tm} {σ : L2.St} {H : Hp} {vs : List Nat} {i j l : Nat} {te tv' : TE} {Q : VK} (G : Tm → Int) (hv : ∀ R : VK, R (.ref a) H → tv' σ H R) (hs : SqL K H a xs) (hP : TVs K H xs ts) (hl : ts.length ≤ 100000)
    (hw : ∀ x y z, wipe ((((wipe σ vs).set i (some x)).set j (some y)).set l (some z)) vs = wipe σ vs)
    (he : ∀ t ∈ ts, ∀ x H2, Same H H2 → TPol K H2 x t.rs → ∀ R : VK, (∀ H3, Same H2 H3 → R (.int (G t)) H3) → te ((((wipe σ vs).set i (some (.int t.pl))).set j (some (.int t.co))).set l (some x)) H2 R)
    (k : ∀ D H2, H D = none → Same H H2 → H2 D = some (.lst ((ts.map G).map V.int)) → Q (.ref D) H2) : tLc (iList K tv') (gTup K 3 (gCons (gName i) (gCons (gName j) (gCons (gName l) gNil)))) tYes te vs σ H Q := by
  refine hv _ ⟨a, rfl, ⟨_, hs⟩, fun D nD => lc_list (K := K) (a := a) (xs := xs) (fun m H2 => Same H H2 ∧ H2 D = some (.lst (((ts.take m).map G).map V.int))) ⟨same_new nD, upd_same⟩ (fun m H2 _ g => same_l g.1 hs) ?_ ?_⟩
  · rintro m x H2 hm ⟨s2, h2⟩
    obtain ⟨t, ht, b, y, rfl, hb, hy⟩ := hP.get hm
    refine ⟨b, _, rfl, same_t s2 hb, rfl, _, _, rfl, _, _, rfl, _, _, rfl, rfl, hw _ _ _, ?_⟩
    dsimp only [tYes]
    rw [if_pos rfl]
    have hm2 : m < ts.length := (List.getElem?_eq_some_iff.mp ht).1
    refine he t (List.mem_of_getElem? ht) y H2 s2 (hy.tp (Same.tp s2)) _ fun H3 s3 => ⟨_, s3 _ _ h2, sl_lt (by rw [List.length_map, List.length_map, List.length_take]; omega), same_mut (s2.trans s3) nD, ?_⟩
    rw [upd_same, take_snoc ht, List.map_append, List.map_append]
    rfl
  · rintro H2 ⟨s2, h2⟩
    rw [hP.len, List.take_length] at h2
    exact k D H2 nD s2 h2
/-- [repeated(term) for term in a list of terms] -/
theorem lcRep {K : PySem.W.Frag} {a : Addr} {xs : List V} {ts : List Tm} {σ : L2.St} {H : Hp} {vs : List Nat} {i : Nat} {te tv' : TE} {Q : VK} (P : Tm → Tm → Prop) (hv : ∀ R : VK, R (.ref a) H → tv' σ H R) (hs : H a = some (.lst xs)) (hP : TVs K H xs ts) (hl : ts.length ≤ 100000)
    (hw : ∀ x, wipe ((wipe σ vs).set i (some x)) vs = wipe σ vs)
    (he : ∀ t ∈ ts, ∀ x H2, Same H H2 → TermV K H2 x t → ∀ R : VK, (∀ u t' H3, Same H2 H3 → TermV K H3 u t' → P t t' → R u H3) → te ((wipe σ vs).set i (some x)) H2 R)
    (k : ∀ D H2 ys us, H D = none → Same H H2 → H2 D = some (.lst ys) → TVs K H2 ys us → Paired P ts us → Q (.ref D) H2) : tLc (iList K tv') (gName i) tYes te vs σ H Q := by
  refine hv _ ⟨a, rfl, ⟨_, SqL.of hs⟩, fun D nD => lc_list (K := K) (a := a) (xs := xs) (fun m H2 => Same H H2 ∧ ∃ ys us, H2 D = some (.lst ys) ∧ TVs K H2 ys us ∧ Paired P (ts.take m) us) ⟨same_new nD, [], [], upd_same, .nil, by rw [List.take_zero]; exact .nil⟩ (fun m H2 _ g => SqL.of (g.1 _ _ hs)) ?_ ?_⟩
  · rintro m x H2 hm ⟨s2, ys, us, h2, hY, hPd⟩
    obtain ⟨t, ht, hx⟩ := hP.get hm
    refine ⟨hw _, ?_⟩
    dsimp only [tYes]
    rw [if_pos rfl]
    have hm2 : m < ts.length := (List.getElem?_eq_some_iff.mp ht).1
    have hyl : ys.length ≤ m := by
      rw [hY.len, ← Paired.length hPd, List.length_take]
      omega
    refine he t (List.mem_of_getElem? ht) x H2 s2 (hx.tp (Same.tp s2)) _ fun u t' H3 s3 hu hp => ⟨ys, s3 _ _ h2, sl_lt (by omega), same_mut (s2.trans s3) nD, ys ++ [u], us ++ [t'], upd_same, TVs.app (hY.tp ((Same.tp s3).trans (tp_lst (s3 _ _ h2)))) (.cons (hu.tp (tp_lst (s3 _ _ h2))) .nil), ?_⟩
    rw [take_snoc ht]
    have app : ∀ {l1 l2 : List Tm}, Paired P l1 l2 → Paired P (l1 ++ [t]) (l2 ++ [t']) := by
      intro l1 l2 h
      induction h with
      | nil => exact .cons hp .nil
      | cons r _ ih => exact .cons r ih
    exact app hPd
  · rintro H2 ⟨s2, ys, us, h2, hY, hPd⟩
    rw [hP.len, List.take_length] at hPd
    exact k D H2 ys us nD s2 h2 hY hPd
theorem lcRepG {K : PySem.W.Frag} {σ : L2.St} {H : Hp} {vs : List Nat} {i : Nat} {te tv' : TE} {Q : VK} (P : Tm → Tm → Prop) (Z : List Tm → Prop) (hv : ∀ R : VK, (∀ a xs ts H1, Same H H1 → H1 a = some (.lst xs) → TVs K H1 xs ts → Z ts → R (.ref a) H1) → tv' σ H R) (hZ : ∀ ts, Z ts → ts.length ≤ 100000)
    (hw : ∀ x, wipe ((wipe σ vs).set i (some x)) vs = wipe σ vs)
    (he : ∀ ts, Z ts → ∀ t ∈ ts, ∀ x H2, Same H H2 → TermV K H2 x t → ∀ R : VK, (∀ u t' H3, Same H2 H3 → TermV K H3 u t' → P t t' → R u H3) → te ((wipe σ vs).set i (some x)) H2 R)
    (k : ∀ D H2 ys ts us, H D = none → Same H H2 → H2 D = some (.lst ys) → TVs K H2 ys us → Z ts → Paired P ts us → Q (.ref D) H2) : tLc (iList K tv') (gName i) tYes te vs σ H Q := by
  refine hv _ fun a xs ts H1 s1 hs hP hz => ?_
  have hl := hZ ts hz
  have nn : ∀ {D : Addr}, H1 D = none → H D = none := fun {D} n => by
    cases hh : H D with
    | none => rfl
    | some o => rw [s1 _ _ hh] at n; cases n
  refine ⟨a, rfl, ⟨_, SqL.of hs⟩, fun D nD => lc_list (K := K) (a := a) (xs := xs) (fun m H2 => Same H1 H2 ∧ ∃ ys us, H2 D = some (.lst ys) ∧ TVs K H2 ys us ∧ Paired P (ts.take m) us) ⟨same_new nD, [], [], upd_same, .nil, by rw [List.take_zero]; exact .nil⟩ (fun m H2 _ g => SqL.of (g.1 _ _ hs)) ?_ ?_⟩
  · rintro m x H2 hm ⟨s2, ys, us, h2, hY, hPd⟩
    obtain ⟨t, ht, hx⟩ := hP.get hm
    refine ⟨hw _, ?_⟩
    dsimp only [tYes]
    rw [if_pos rfl]
    have hm2 : m < ts.length := (List.getElem?_eq_some_iff.mp ht).1
    have hyl : ys.length ≤ m := by
      rw [hY.len, ← Paired.length hPd, List.length_take]
      omega
    refine he ts hz t (List.mem_of_getElem? ht) x H2 (s1.trans s2) (hx.tp (Same.tp s2)) _ fun u t' H3 s3 hu hp => ⟨ys, s3 _ _ h2, sl_lt (by omega), same_mut (s2.trans s3) nD, ys ++ [u], us ++ [t'], upd_same, TVs.app (hY.tp ((Same.tp s3).trans (tp_lst (s3 _ _ h2)))) (.cons (hu.tp (tp_lst (s3 _ _ h2))) .nil), ?_⟩
    rw [take_snoc ht]
    have app : ∀ {l1 l2 : List Tm}, Paired P l1 l2 → Paired P (l1 ++ [t]) (l2 ++ [t']) := by
      intro l1 l2 h
      induction h with
      | nil => exact .cons hp .nil
      | cons r _ ih => exact .cons r ih
    exact app hPd
  · rintro H2 ⟨s2, ys, us, h2, hY, hPd⟩
    rw [hP.len, List.take_length] at hPd
    exact k D H2 ys ts us (nn nD) (s1.trans s2) h2 hY hz hPd
theorem trP_app : ∀ (a b : List Ins), trP (a ++ b) = trP a + trP b
  | [], b => by rw [List.nil_append, trP_nil, Int.zero_add]
  | i :: r, b => by rw [List.cons_append, trP_cons, trP_cons, trP_app r b, Int.add_assoc]
theorem trP_snoc {b : List Ins} {j : Nat} {i : Ins} (h : b[j]? = some i) : trP (b.take (j + 1)) = trP (b.take j) + trI i := by
  rw [take_snoc h, trP_app, trP_cons, trP_nil, Int.add_zero]
theorem trP_take : ∀ (b : List Ins) (j : Nat), trP (b.take j) ≤ trP b
  | [], _ => by rw [List.take_nil]; exact Int.le_refl _
  | i :: r, 0 => by
    rw [List.take_zero, trP_nil]
    exact trP_nn _
  | i :: r, j + 1 => by
    rw [List.take_succ_cons, trP_cons, trP_cons]
    have := trP_take r j
    omega
theorem cnP_snoc' {b : List Ins} {j : Nat} {i : Ins} (h : b[j]? = some i) : cnP (b.take (j + 1)) = cnP (b.take j) + cnI i := by
  rw [take_snoc h, cnP_app, cnP_cons, show cnP [] = 0 by unfold cnP; rfl]
  rfl
theorem cnP_take' : ∀ (b : List Ins) (j : Nat), cnP (b.take j) ≤ cnP b
  | [], _ => by rw [List.take_nil]; exact Nat.le_refl _
  | i :: r, 0 => by rw [List.take_zero, show cnP [] = 0 by unfold cnP; rfl]; exact Nat.zero_le _
  | i :: r, j + 1 => by
    rw [List.take_succ_cons, cnP_cons, cnP_cons]
    have := cnP_take' r j
    omega
theorem prs_perm {K : PySem.W.Frag} {H : Hp} {ys zs : List V} (h : ys.Perm zs) : ∀ {f : Pol}, Prs K H zs f → ∃ g, Prs K H ys g ∧ g.Perm f := by
  induction h with
  | nil =>
    intro f hf
    cases hf
    exact ⟨[], .nil, .nil⟩
  | cons x _ ih =>
    intro f hf
    cases hf with
    | cons r q =>
      obtain ⟨g, h1, h2⟩ := ih q
      exact ⟨_ :: g, .cons r h1, h2.cons _⟩
  | swap x y l =>
    intro f hf
    cases hf with
    | cons r q =>
      cases q with
      | cons r2 q2 => exact ⟨_, .cons r2 (.cons r q2), .swap _ _ _⟩
  | trans _ _ h1 h2 =>
    intro f hf
    obtain ⟨g, a1, a2⟩ := h2 hf
    obtain ⟨g', b1, b2⟩ := h1 a1
    exact ⟨g', b1, b2.trans a2⟩
end DR
namespace DR
open PySem PySem.Spec PyProof.Rows L2
/-! ### the laws' own terms: factor, offset, rounds -/
def LTermV (K : PySem.W.Frag) (H : Hp) (v : V) (t : Tm) : Prop := ∃ a x, v = .ref a ∧ SqT K H a [.int t.co, .int t.pl, x] ∧ TPol K H x t.rs
abbrev LTVs (K : PySem.W.Frag) (H : Hp) : List V → List Tm → Prop := Paired (LTermV K H)
section
variable {K : PySem.W.Frag} {H H' : Hp} {v x : V} {t : Tm} {xs ys : List V} {ts us : List Tm}
theorem LTermV.tp (e : Tp H H') (h : LTermV K H v t) : LTermV K H' v t := by
  obtain ⟨a, x, rfl, hs, hx⟩ := h
  exact ⟨a, x, rfl, tp_t e hs, hx.tp e⟩
theorem LTVs.tp (e : Tp H H') : ∀ {xs : List V} {ts : List Tm}, LTVs K H xs ts → LTVs K H' xs ts
  | _, _, .nil => .nil
  | _, _, .cons r q => .cons (r.tp e) (LTVs.tp e q)
theorem LTVs.app : ∀ {xs : List V} {ts : List Tm}, LTVs K H xs ts → LTVs K H ys us → LTVs K H (xs ++ ys) (ts ++ us)
  | _, _, .nil, h => h
  | _, _, .cons r q, h => .cons r (LTVs.app q h)
theorem LTVs.len (h : LTVs K H xs ts) : xs.length = ts.length := Paired.length h
theorem LTVs.get : ∀ {xs : List V} {ts : List Tm} {i : Nat} {x : V}, LTVs K H xs ts → xs[i]? = some x → ∃ t, ts[i]? = some t ∧ LTermV K H x t
  | _, _, _, _, .nil, e => by simp at e
  | _, _, 0, _, .cons r _, e => by
    simp at e
    subst e
    exact ⟨_, rfl, r⟩
  | _, _, i + 1, x, .cons _ q, e => by
    obtain ⟨t, h1, h2⟩ := LTVs.get (i := i) (x := x) q (by simpa using e)
    exact ⟨t, by simpa using h1, h2⟩
def tmD (t : Tm) : PyData := .tuple [.int t.co, .int t.pl, pd t.rs]
theorem LTermV.dp (h : LTermV K H v t) : Dp K H v (tmD t) := by
  obtain ⟨a, x, rfl, hs, hx⟩ := h
  exact .tup hs (.cons (.int _) (.cons (.int _) (.cons hx.dp .nil)))
theorem LTVs.dp : ∀ {xs : List V} {ts : List Tm}, LTVs K H xs ts → DpAll K H xs (ts.map tmD)
  | _, _, .nil => .nil
  | _, _, .cons r q => .cons r.dp (LTVs.dp q)
end
theorem tmDs_lay : ∀ ts : List Tm, PyData.canLayAll0 (ts.map tmD) = true ∧ PyData.depthAll (ts.map tmD) ≤ 3
  | [] => ⟨rfl, Nat.zero_le _⟩
  | t :: r => by
    obtain ⟨a, b⟩ := tmDs_lay r
    obtain ⟨c, d⟩ := prs_lay t.rs
    refine ⟨?_, ?_⟩
    · show ((true && (true && (PyData.canLayAll0 (t.rs.map pr) && true))) && PyData.canLayAll0 (r.map tmD)) = true
      rw [a, c]
      rfl
    · show max (max 0 (max 0 (max (PyData.depthAll (t.rs.map pr) + 1) 0)) + 1) (PyData.depthAll (r.map tmD)) ≤ 3
      omega
theorem tmDs_shaped (ts : List Tm) : SeqAt.shaped (.list (ts.map tmD)) = true := by
  obtain ⟨a, b⟩ := tmDs_lay ts
  show (PyData.canLayAll0 (ts.map tmD) && decide (PyData.depthAll (ts.map tmD) + 1 ≤ 64)) = true
  rw [a, decide_eq_true (by omega)]
  rfl
structure LOk (k : Nat) (t : Tm) : Prop where
  co : t.co.natAbs ≤ 2 ^ 100
  len : t.rs.length + 1 ≤ k
  rs : ∀ r ∈ t.rs, 1 ≤ r.1 ∧ r.1 ≤ 2 ^ 100 ∧ r.2.natAbs ≤ 2 ^ 331
def sp__law_terms (K : PySem.W.Frag) (k : Nat) : Sp := fun vs H Q _ => ∃ (v : V) (b : List Ins), vs = [v] ∧ PV K H v b ∧ dpP b < k ∧ k ≤ 3 ∧ WP b ∧ NP b ∧ cnP b ≤ 1024 ∧
  ∀ D ys ts H', Same H H' → H D = none → H' D = some (.lst ys) → LTVs K H' ys ts → (∀ x, tvs ts x = seP b x) → (∀ t ∈ ts, LOk k t) → ts.length ≤ cnP b → Q (.ref D) H'
def sp__law_below : Sp := fun vs H Q _ => ∃ (p c : Addr) (n : Int) (m : Nat), vs = [.ref p, .int n] ∧ 1 ≤ n ∧ n ≤ 2 ^ 100 ∧ PenAt H p c m ∧ m < 2 ^ 39 ∧ ∀ r H', 0 ≤ r → r < n → Kp p H H' → PenAt H' p c (m + 3) → Q (.int r) H'
def sp__law_within : Sp := fun vs H Q _ => ∃ (z : Int), vs = [.int z] ∧ ∀ y : Int, y.natAbs ≤ 10 ^ 30 → Q (.int y) H
def sp__law_touched (K : PySem.W.Frag) : Sp := fun vs H Q _ => ∃ (p c : Addr) (v : V) (b : List Ins) (m : Nat), vs = [.ref p, v] ∧ PV K H v b ∧ dpP b < 3 ∧ WP b ∧ NP b ∧ cnP b ≤ 1024 ∧ PenAt H p c m ∧ m < 2 ^ 38 ∧ ∀ z H', Kp p H H' → PenAt H' p c (m + 10) → Q (.int z) H'
def sp__law_flat_program (K : PySem.W.Frag) : Sp := fun vs H Q _ => ∃ (p c : Addr) (most reach rounds : Int) (n : Nat), vs = [.ref p, .int most, .int reach, .int rounds] ∧ 0 ≤ most ∧ most ≤ 20 ∧ 0 ≤ reach ∧ reach ≤ 10 ^ 30 ∧ 0 ≤ rounds ∧ rounds ≤ 10 ^ 30 ∧ PenAt H p c n ∧ n < 2 ^ 38 ∧
  ∀ F xs b H', Kp p H H' → PenAt H' p c (n + 200) → H' F = some (.lst xs) → IVs K H' xs b → PrR b 1 (3 * most.toNat + 1) rounds → Q (.ref F) H'
def sp__law_short_program (K : PySem.W.Frag) : Sp := fun vs H Q _ => ∃ (p c : Addr) (most reach rounds : Int) (n : Nat), vs = [.ref p, .int most, .int reach, .int rounds] ∧ 0 ≤ most ∧ most ≤ 20 ∧ 0 ≤ reach ∧ reach ≤ 10 ^ 30 ∧ 0 ≤ rounds ∧ rounds ≤ 10 ^ 30 ∧ PenAt H p c n ∧ n < 2 ^ 37 ∧
  ∀ F xs b H', Kp p H H' → PenAt H' p c (n + 400) → H' F = some (.lst xs) → IVs K H' xs b → PrR b 2 (5 * most.toNat + 2) rounds → Q (.ref F) H'
/-- [an int for x, y in a tuple of pairs], drawn by the pen -/
theorem lcPenT {K : PySem.W.Frag} {a p c : Addr} {xs : List V} {f : Pol} {σ : L2.St} {H : Hp} {vs : List Nat} {i j : Nat} {te tv' : TE} {Q : VK} (hv : ∀ R : VK, R (.ref a) H → tv' σ H R) (hs : SqT K H a xs) (hP : Prs K H xs f) (hl : f.length ≤ 1000) (b cost : Nat) (pen : PenAt H p c b)
    (hw : ∀ x y, wipe (((wipe σ vs).set i (some x)).set j (some y)) vs = wipe σ vs)
    (he : ∀ t ∈ f, ∀ (m : Nat) H2, m < f.length → PenAt H2 p c (b + cost * m) → ∀ S : VK, (∀ z H3, Kp p H2 H3 → PenAt H3 p c (b + cost * (m + 1)) → S (.int z) H3) → te (((wipe σ vs).set i (some (.int t.1))).set j (some (.int t.2))) H2 S)
    (k : ∀ D H2 (zs : List Int), H2 D = some (.lst (zs.map V.int)) → Kp p H H2 → PenAt H2 p c (b + cost * f.length) → Q (.ref D) H2) : tLc (iTup K tv') (gTup K 2 (gCons (gName i) (gCons (gName j) gNil))) tYes te vs σ H Q := by
  refine hv _ ⟨a, rfl, ⟨_, hs⟩, fun D nD => ?_⟩
  have npD := pen.np nD
  have ncD := pen.nc nD
  refine lc_tup (K := K) (a := a) (xs := xs) (fun m H2 => ∃ zs : List Int, H2 D = some (.lst (zs.map V.int)) ∧ zs.length = m ∧ Kp p H H2 ∧ PenAt H2 p c (b + cost * m)) ⟨[], upd_same, rfl, Same.kp (same_new nD), pen.same (same_new nD)⟩ (fun m H2 _ ⟨_, _, _, k2, _⟩ => tp_t (pen.tp k2) hs) ?_ ?_
  · rintro m x H2 hm ⟨zs, hD, hzl, k2, pen2⟩
    obtain ⟨t, ht, q, rfl, hq⟩ := hP.get hm
    refine ⟨q, _, rfl, tp_t (pen.tp k2) hq, rfl, _, _, rfl, _, _, rfl, rfl, hw _ _, ?_⟩
    dsimp only [tYes]
    rw [if_pos rfl]
    have hm2 : m < f.length := (List.getElem?_eq_some_iff.mp ht).1
    refine he t (List.mem_of_getElem? ht) m H2 hm2 pen2 _ fun z H3 k3 pen3 => ⟨zs.map V.int, k3 _ _ npD hD, sl_lt (by rw [List.length_map]; omega), zs ++ [z], ?_, by rw [List.length_append, hzl]; rfl, fun y o ny ey => ?_, pen3.upd npD ncD⟩
    · rw [upd_same, List.map_append]
      rfl
    · rw [upd_ne (ne_of_none ey nD)]
      exact k3 _ _ ny (k2 _ _ ny ey)
  · rintro H2 ⟨zs, hD, hzl, k2, pen2⟩
    rw [hP.len] at pen2
    exact k D H2 zs hD k2 pen2
end DR
namespace DR
open PySem PySem.Spec PyProof.Rows L2
/-! ### steps times a factor; a program taken back -/
mutual
def stI (f : Int) : Ins → Ins
  | .step c => .step (c * f)
  | .turn c => .turn c
  | .rep n b => .rep n (stP f b)
def stP (f : Int) : List Ins → List Ins
  | [] => []
  | i :: r => stI f i :: stP f r
end
mutual
def bkI : Ins → Ins
  | .step c => .step (0 - c)
  | .turn c => .turn (0 - c)
  | .rep n b => .rep n (bkP b)
def bkP : List Ins → List Ins
  | [] => []
  | i :: r => bkP r ++ [bkI i]
end
mutual
def CI (M : Nat) : Ins → Prop
  | .step c => c.natAbs ≤ M
  | .turn c => c.natAbs ≤ M
  | .rep _ b => CP M b
def CP (M : Nat) : List Ins → Prop
  | [] => True
  | i :: r => CI M i ∧ CP M r
end
theorem stP_nil (f : Int) : stP f [] = [] := by rw [stP]
theorem stP_cons (f : Int) (i : Ins) (r : List Ins) : stP f (i :: r) = stI f i :: stP f r := by rw [stP]
theorem bkP_nil : bkP [] = [] := by rw [bkP]
theorem bkP_cons (i : Ins) (r : List Ins) : bkP (i :: r) = bkP r ++ [bkI i] := by rw [bkP]
theorem CP_cons (M : Nat) (i : Ins) (r : List Ins) : CP M (i :: r) = (CI M i ∧ CP M r) := by rw [CP]
theorem CP_app {M : Nat} : ∀ {a b : List Ins}, CP M a → CP M b → CP M (a ++ b)
  | [], b, _, h => h
  | i :: r, b, h, h2 => by
    rw [List.cons_append, CP_cons]
    rw [CP_cons] at h
    exact ⟨h.1, CP_app h.2 h2⟩
theorem flat_cp {N R : Nat} : ∀ {b : List Ins}, Flat b N R → CP R b
  | [], _ => by rw [CP]; trivial
  | i :: r, h => by
    rw [CP_cons]
    refine ⟨?_, flat_cp (b := r) ⟨Nat.le_trans (Nat.le_succ _) h.len, fun j hj => h.flat j (List.mem_cons_of_mem _ hj), fun j hj => h.cnt j (List.mem_cons_of_mem _ hj)⟩⟩
    have h1 := h.flat i List.mem_cons_self
    have h2 := h.cnt i List.mem_cons_self
    cases i with
    | step c => rw [CI]; exact h2
    | turn c => rw [CI]; exact h2
    | rep n b => exact absurd h1 id
theorem stP_app (f : Int) : ∀ a b : List Ins, stP f (a ++ b) = stP f a ++ stP f b
  | [], b => by rw [stP_nil]; rfl
  | i :: r, b => by rw [List.cons_append, stP_cons, stP_cons, stP_app f r b]; rfl
theorem bkP_app : ∀ a b : List Ins, bkP (a ++ b) = bkP b ++ bkP a
  | [], b => by rw [bkP_nil, List.append_nil]; rfl
  | i :: r, b => by rw [List.cons_append, bkP_cons, bkP_cons, bkP_app r b, List.append_assoc]
theorem st_len (f : Int) : ∀ b : List Ins, (stP f b).length = b.length
  | [] => by rw [stP_nil]
  | i :: r => by rw [stP_cons, List.length_cons, List.length_cons, st_len f r]
theorem bk_len : ∀ b : List Ins, (bkP b).length = b.length
  | [] => by rw [bkP_nil]
  | i :: r => by rw [bkP_cons, List.length_append, bk_len r]; rfl
mutual
theorem stI_dp (f : Int) : ∀ i : Ins, dpI (stI f i) = dpI i
  | .step c => by rw [stI, dpI, dpI]
  | .turn c => by rw [stI]
  | .rep n b => by rw [stI, dpI, dpI, st_dp f b]
theorem st_dp (f : Int) : ∀ b : List Ins, dpP (stP f b) = dpP b
  | [] => by rw [stP_nil]
  | i :: r => by rw [stP_cons, dpP_cons, dpP_cons, stI_dp f i, st_dp f r]
end
mutual
theorem stI_cn (f : Int) : ∀ i : Ins, cnI (stI f i) = cnI i
  | .step c => by rw [stI, cnI, cnI]
  | .turn c => by rw [stI]
  | .rep n b => by rw [stI, cnI, cnI, st_cn f b]
theorem st_cn (f : Int) : ∀ b : List Ins, cnP (stP f b) = cnP b
  | [] => by rw [stP_nil]
  | i :: r => by rw [stP_cons, cnP_cons, cnP_cons, stI_cn f i, st_cn f r]
end
mutual
theorem bkI_dp : ∀ i : Ins, dpI (bkI i) = dpI i
  | .step c => by rw [bkI, dpI, dpI]
  | .turn c => by rw [bkI, dpI, dpI]
  | .rep n b => by rw [bkI, dpI, dpI, bk_dp b]
theorem bk_dp : ∀ b : List Ins, dpP (bkP b) = dpP b
  | [] => by rw [bkP_nil]
  | i :: r => by
    rw [bkP_cons, dpP_app, dpP_cons, dpP_cons, bkI_dp i, bk_dp r, show dpP [] = 0 by unfold dpP; rfl]
    omega
end
mutual
theorem bkI_cn : ∀ i : Ins, cnI (bkI i) = cnI i
  | .step c => by rw [bkI, cnI, cnI]
  | .turn c => by rw [bkI, cnI, cnI]
  | .rep n b => by rw [bkI, cnI, cnI, bk_cn b]
theorem bk_cn : ∀ b : List Ins, cnP (bkP b) = cnP b
  | [] => by rw [bkP_nil]
  | i :: r => by
    rw [bkP_cons, cnP_app, cnP_cons, cnP_cons, bkI_cn i, bk_cn r, show cnP [] = 0 by unfold cnP; rfl]
    omega
end
mutual
theorem stI_np (f : Int) : ∀ i : Ins, NI i → NI (stI f i)
  | .step c, _ => by rw [stI, NI]; trivial
  | .turn c, h => by rw [stI]; exact h
  | .rep n b, h => by
    rw [NI] at h
    rw [stI, NI]
    exact ⟨h.1, st_np f b h.2⟩
theorem st_np (f : Int) : ∀ b : List Ins, NP b → NP (stP f b)
  | [], h => by rw [stP_nil]; exact h
  | i :: r, h => by
    rw [NP_cons] at h
    rw [stP_cons, NP_cons]
    exact ⟨stI_np f i h.1, st_np f r h.2⟩
end
mutual
theorem bkI_np : ∀ i : Ins, NI i → NI (bkI i)
  | .step c, _ => by rw [bkI, NI]; trivial
  | .turn c, h => by rw [bkI, NI]; trivial
  | .rep n b, h => by
    rw [NI] at h
    rw [bkI, NI]
    exact ⟨h.1, bk_np b h.2⟩
theorem bk_np : ∀ b : List Ins, NP b → NP (bkP b)
  | [], h => by rw [bkP_nil]; exact h
  | i :: r, h => by
    rw [NP_cons] at h
    rw [bkP_cons]
    refine NP_app _ _ (bk_np r h.2) ?_
    rw [NP_cons]
    exact ⟨bkI_np i h.1, by rw [NP]; trivial⟩
end
mutual
theorem stI_w {f : Int} {M : Nat} (hf : f.natAbs ≤ 16) (hM : M * 16 ≤ 2 ^ 100) : ∀ i : Ins, CI M i → WI i → WI (stI f i)
  | .step c, h, _ => by
    rw [CI] at h
    rw [stI, WI, Int.natAbs_mul]
    exact Nat.le_trans (Nat.mul_le_mul h hf) hM
  | .turn c, _, w => by rw [stI]; exact w
  | .rep n b, h, w => by
    rw [CI] at h
    rw [WI] at w
    rw [stI, WI, st_len]
    exact ⟨w.1, w.2.1, st_w hf hM b h w.2.2⟩
theorem st_w {f : Int} {M : Nat} (hf : f.natAbs ≤ 16) (hM : M * 16 ≤ 2 ^ 100) : ∀ b : List Ins, CP M b → WP b → WP (stP f b)
  | [], _, w => by rw [stP_nil]; exact w
  | i :: r, h, w => by
    rw [CP_cons] at h
    rw [WP] at w
    rw [stP_cons, WP]
    exact ⟨stI_w hf hM i h.1 w.1, st_w hf hM r h.2 w.2⟩
end
mutual
theorem bkI_w : ∀ i : Ins, WI i → WI (bkI i)
  | .step c, w => by
    rw [WI] at w
    rw [bkI, WI, Int.zero_sub, Int.natAbs_neg]
    exact w
  | .turn c, w => by
    rw [WI] at w
    rw [bkI, WI, Int.zero_sub, Int.natAbs_neg]
    exact w
  | .rep n b, w => by
    rw [WI] at w
    rw [bkI, WI, bk_len]
    exact ⟨w.1, w.2.1, bk_w b w.2.2⟩
theorem bk_w : ∀ b : List Ins, WP b → WP (bkP b)
  | [], w => by rw [bkP_nil]; exact w
  | i :: r, w => by
    rw [WP] at w
    rw [bkP_cons]
    refine WP_app _ _ (bk_w r w.2) ?_
    rw [WP]
    exact ⟨bkI_w i w.1, by rw [WP]; trivial⟩
end
mutual
theorem shI_st (f : Int) : ∀ i : Ins, shI (stI f i) = f * shI i
  | .step c => by rw [stI, shI, shI, Int.mul_comm]
  | .turn c => by rw [stI, shI, Int.mul_zero]
  | .rep n b => by rw [stI, shI, shI, shP_st f b, Int.mul_left_comm]
theorem shP_st (f : Int) : ∀ b : List Ins, shP (stP f b) = f * shP b
  | [] => by rw [stP_nil, shP_nil, Int.mul_zero]
  | i :: r => by rw [stP_cons, shP_cons, shP_cons, shI_st f i, shP_st f r, Int.mul_add]
end
mutual
theorem shI_bk : ∀ i : Ins, shI (bkI i) = - shI i
  | .step c => by rw [bkI, shI, shI]; omega
  | .turn c => by rw [bkI, shI, shI]; rfl
  | .rep n b => by rw [bkI, shI, shI, shP_bk b, Int.mul_neg]
theorem shP_bk : ∀ b : List Ins, shP (bkP b) = - shP b
  | [] => by rw [bkP_nil, shP_nil]; rfl
  | i :: r => by
    rw [bkP_cons, shP_app, shP_cons, shP_cons, shP_nil, shI_bk i, shP_bk r]
    omega
end
theorem rsum_scale {f : Int} {g h : Int → Int} (e : ∀ x, g (f * x) = h x) (s : Int) : ∀ (n : Nat) (x : Int), rsum g (f * s) n (f * x) = rsum h s n x
  | 0, _ => rfl
  | n + 1, x => by
    show rsum g (f * s) n (f * x) + g (f * x - n * (f * s)) = rsum h s n x + h (x - n * s)
    rw [rsum_scale e s n x, ← e, Int.mul_sub, Int.mul_left_comm]
theorem rsum_off {f : Int} {g : Int → Int} (e : ∀ x, ¬ f ∣ x → g x = 0) (s : Int) : ∀ (n : Nat) (x : Int), ¬ f ∣ x → rsum g (f * s) n x = 0
  | 0, _, _ => rfl
  | n + 1, x, h => by
    show rsum g (f * s) n x + g (x - n * (f * s)) = 0
    rw [rsum_off e s n x h, e]
    · rfl
    · intro d
      have h2 : f ∣ (n : Int) * (f * s) := ⟨n * s, by rw [Int.mul_left_comm]⟩
      have h3 := Int.dvd_add d h2
      rw [Int.sub_add_cancel] at h3
      exact h h3
mutual
theorem seI_st {f : Int} (hf : f ≠ 0) : ∀ (i : Ins) (x : Int), seI (stI f i) (f * x) = seI i x
  | .step c, x => by rw [stI, seI, seI]
  | .turn c, x => by
    rw [stI, seI, seI]
    by_cases h : x = 0
    · rw [if_pos h, if_pos (by rw [h, Int.mul_zero])]
    · rw [if_neg h, if_neg (fun z => (Int.mul_eq_zero.mp z).elim hf h)]
  | .rep n b, x => by
    rw [stI, seI, seI, shP_st]
    exact rsum_scale (fun y => seP_st hf b y) (shP b) n.toNat x
theorem seP_st {f : Int} (hf : f ≠ 0) : ∀ (b : List Ins) (x : Int), seP (stP f b) (f * x) = seP b x
  | [], x => by rw [stP_nil, seP_nil, seP_nil]
  | i :: r, x => by rw [stP_cons, seP_cons, seP_cons, seI_st hf i x, shI_st, ← Int.mul_sub, seP_st hf r]
end
mutual
theorem seI_off {f : Int} : ∀ (i : Ins) (x : Int), ¬ f ∣ x → seI (stI f i) x = 0
  | .step c, x, _ => by rw [stI, seI]
  | .turn c, x, h => by
    rw [stI, seI]
    refine if_neg fun z => h ?_
    rw [z]
    exact Int.dvd_zero f
  | .rep n b, x, h => by
    rw [stI, seI, shP_st]
    exact rsum_off (fun y hy => seP_off b y hy) (shP b) n.toNat x h
theorem seP_off {f : Int} : ∀ (b : List Ins) (x : Int), ¬ f ∣ x → seP (stP f b) x = 0
  | [], x, _ => by rw [stP_nil, seP_nil]
  | i :: r, x, h => by
    rw [stP_cons, seP_cons, seI_off i x h, shI_st, seP_off r]
    · rfl
    · intro d
      exact h (by have := Int.dvd_add d (⟨shI i, rfl⟩ : f ∣ f * shI i); rwa [Int.sub_add_cancel] at this)
end
theorem rsum_first (f : Int → Int) (s : Int) : ∀ (n : Nat) (x : Int), rsum f s (n + 1) x = f x + rsum f s n (x - s)
  | 0, x => by
    show 0 + f (x - ((0 : Nat) : Int) * s) = f x + 0
    rw [Int.zero_add, Int.add_zero, Int.natCast_zero, Int.zero_mul, Int.sub_zero]
  | n + 1, x => by
    show rsum f s (n + 1) x + f (x - ((n + 1 : Nat) : Int) * s) = f x + (rsum f s n (x - s) + f (x - s - n * s))
    rw [rsum_first f s n x, Int.add_assoc, Int.natCast_succ, Int.add_mul, Int.one_mul, show x - ((n : Int) * s + s) = x - s - n * s by omega]
theorem rsum_undo {f g : Int → Int} {s : Int} (e : ∀ x, g (x - s) = - f x) : ∀ (n : Nat) (x : Int), rsum g (-s) n (x - n * s) = - rsum f s n x
  | 0, _ => rfl
  | n + 1, x => by
    rw [rsum_first g, show x - ((n + 1 : Nat) : Int) * s - -s = x - n * s by rw [Int.natCast_succ, Int.add_mul, Int.one_mul]; omega, rsum_undo e n x]
    show g (x - ((n + 1 : Nat) : Int) * s) + - rsum f s n x = - (rsum f s n x + f (x - n * s))
    rw [show x - ((n + 1 : Nat) : Int) * s = (x - n * s) - s by rw [Int.natCast_succ, Int.add_mul, Int.one_mul]; omega, e]
    omega
mutual
theorem seI_bk : ∀ (i : Ins) (x : Int), NI i → seI (bkI i) (x - shI i) = - seI i x
  | .step c, x, _ => by rw [bkI, seI, seI]; rfl
  | .turn c, x, _ => by
    rw [bkI, seI, seI, shI, Int.sub_zero]
    split <;> omega
  | .rep n b, x, h => by
    rw [NI] at h
    rw [bkI, seI, seI, shI, shP_bk]
    have := rsum_undo (f := fun y => seP b y) (g := fun y => seP (bkP b) y) (s := shP b) (fun y => seP_bk b y h.2) n.toNat x
    rw [Int.toNat_of_nonneg h.1] at this
    exact this
theorem seP_bk : ∀ (b : List Ins) (x : Int), NP b → seP (bkP b) (x - shP b) = - seP b x
  | [], x, _ => by rw [bkP_nil, seP_nil, seP_nil]; rfl
  | i :: r, x, h => by
    rw [NP_cons] at h
    have h1 := seP_bk r (x - shI i) h.2
    have h2 := seI_bk i x h.1
    rw [bkP_cons, seP_app, seP_cons, seP_nil, shP_bk, shP_cons, seP_cons, Int.add_zero, show x - (shI i + shP r) - - shP r = x - shI i by omega, show x - (shI i + shP r) = x - shI i - shP r by omega, h1, h2]
    omega
end
theorem er_inS {H Hc H3 : Hp} {D : Addr} {ys : List V} (k : Same H Hc) (hD : Hc D = some (.lst ys)) : Same (er Hc H3) (er1 D (er H H3)) := fun b o e => by
  obtain ⟨h1, h2⟩ := er_at e
  exact er1_of (fun z => h2 ys (z ▸ hD)) (er_of h1 fun xs z => h2 xs (k _ _ z))
theorem er1_sameS {D : Addr} {H H2 H3 : Hp} (s : Same H2 H3) : Same (er1 D (er H H2)) (er1 D (er H H3)) := fun b o e => by
  obtain ⟨h1, h2⟩ := er1_at e
  exact er1_of h1 (er_same s _ _ h2)
theorem er1_updS {D : Addr} {H H2 : Hp} {o : HO} : Same (er1 D (er H H2)) (er1 D (er H (upd H2 D o))) := fun b u e => by
  obtain ⟨h1, h2⟩ := er1_at e
  obtain ⟨h3, h4⟩ := er_at h2
  exact er1_of h1 (er_of (by rw [upd_ne h1]; exact h3) h4)
theorem er1_tup {D t : Addr} {H H2 : Hp} {us ys : List V} {o : HO} (s : Same H H2) (nt : H2 t = none) (hD : H2 D = some (.lst ys)) : er1 D (er H (upd (upd H2 t (.tup us)) D o)) t = some (.tup us) := by
  have ne : t ≠ D := (ne_of_none hD nt).symm
  refine er1_of ne (er_of (by rw [upd_ne ne, upd_same]) fun xs z => ?_)
  rw [s _ _ z] at nt
  cases nt
def sp__law_backward (K : PySem.W.Frag) (k : Nat) : Sp := fun vs H Q _ => ∃ (v : V) (b : List Ins), vs = [v] ∧ PV K H v b ∧ dpP b < k ∧ k ≤ 3 ∧ cnP b ≤ 1024 ∧ ∀ D ys H', Same H H' → H' D = some (.lst ys) → IVs K H' ys (bkP b) → Q (.ref D) H'
def sp__law_stepped (K : PySem.W.Frag) (k : Nat) : Sp := fun vs H Q _ => ∃ (v : V) (f : Int) (b : List Ins), vs = [v, .int f] ∧ PV K H v b ∧ dpP b < k ∧ k ≤ 3 ∧ cnP b ≤ 1024 ∧ WP b ∧ f.natAbs ≤ 16 ∧ ∀ D H', Same H H' → PV K (er H H') (.ref D) (stP f b) → Q (.ref D) H'
def sp__law_flat_programC (K : PySem.W.Frag) : Sp := fun vs H Q _ => ∃ (p c : Addr) (most reach rounds : Int) (n : Nat), vs = [.ref p, .int most, .int reach, .int rounds] ∧ 0 ≤ most ∧ most ≤ 20 ∧ 0 ≤ reach ∧ reach ≤ 10 ^ 30 ∧ 0 ≤ rounds ∧ rounds ≤ 10 ^ 30 ∧ PenAt H p c n ∧ n < 2 ^ 38 ∧
  ∀ F xs b H', Kp p H H' → PenAt H' p c (n + 200) → H' F = some (.lst xs) → IVs K H' xs b → PrR b 1 (3 * most.toNat + 1) rounds → CP (reach.natAbs + 3) b → Q (.ref F) H'
def sp__law_short_programC (K : PySem.W.Frag) : Sp := fun vs H Q _ => ∃ (p c : Addr) (most reach rounds : Int) (n : Nat), vs = [.ref p, .int most, .int reach, .int rounds] ∧ 0 ≤ most ∧ most ≤ 20 ∧ 0 ≤ reach ∧ reach ≤ 10 ^ 30 ∧ 0 ≤ rounds ∧ rounds ≤ 10 ^ 30 ∧ PenAt H p c n ∧ n < 2 ^ 37 ∧
  ∀ F xs b H', Kp p H H' → PenAt H' p c (n + 400) → H' F = some (.lst xs) → IVs K H' xs b → PrR b 2 (5 * most.toNat + 2) rounds → CP (reach.natAbs + 3) b → Q (.ref F) H'
end DR
namespace DR
open PySem PySem.Spec PyProof.Rows L2
section
variable {X : Cx}
/-- // by a divisor of either sign -/
theorem op_fdivNW : OpR X (binaryOp .FloorDiv) (rI (fun _ j => j ≠ 0 ∧ j.natAbs.log2 < 9000) fun i j => .int (i.fdiv j)) := opI fun i j _ _ _ _ _ hc q => floordiv_int hc.1 q (.inl (PyProof.noPylong_of_log2 hc.2))
theorem wide_divN {j : Int} {b : Nat} (h : j ≠ 0) (hb : j.natAbs < 2 ^ b) (h0 : 0 < b) (h9 : b ≤ 9000) : j ≠ 0 ∧ j.natAbs.log2 < 9000 := ⟨h, Nat.lt_of_lt_of_le (PySem.Flt.log2_lt_of h0 hb) h9⟩
end
theorem wy1_any {s : Int} (hs : s ≠ 0) : ∀ (n : Nat) (e : Int), rsum (fun y => if y = 0 then (1 : Int) else 0) s n e = if e.fmod s = 0 ∧ 0 ≤ e.fdiv s ∧ e.fdiv s < n then 1 else 0
  | 0, e => by
    rw [if_neg (by rintro ⟨_, h1, h2⟩; simp at h2; omega)]
    rfl
  | n + 1, e => by
    show rsum _ s n e + (if e - n * s = 0 then (1 : Int) else 0) = _
    rw [wy1_any hs n e]
    have h := Int.mul_fdiv_add_fmod e s
    by_cases hm : e.fmod s = 0
    · rw [hm, Int.add_zero] at h
      have hk : e - n * s = 0 ↔ e.fdiv s = n := by
        constructor
        · intro z
          have : s * (e.fdiv s - n) = 0 := by rw [Int.mul_sub, h, Int.mul_comm s]; exact z
          rcases Int.mul_eq_zero.mp this with y | y
          · exact absurd y hs
          · omega
        · intro z
          rw [← h, z, Int.mul_comm]
          omega
      by_cases hn : e.fdiv s = n
      · rw [if_neg (by rintro ⟨_, _, h2⟩; omega), if_pos (hk.mpr hn), if_pos ⟨hm, by omega, by omega⟩]
        rfl
      · rw [if_neg (fun z => hn (hk.mp z)), Int.add_zero]
        by_cases h3 : 0 ≤ e.fdiv s ∧ e.fdiv s < n
        · rw [if_pos ⟨hm, h3⟩, if_pos ⟨hm, h3.1, by omega⟩]
        · rw [if_neg (fun z => h3 z.2), if_neg (fun z => h3 ⟨z.2.1, by omega⟩)]
    · have h0 : ¬ (e - n * s = 0) := fun z => hm (by rw [show e = n * s by omega, Int.mul_fmod_left])
      rw [if_neg (fun z => hm z.1), if_neg h0, if_neg (fun z => hm z.1)]
      rfl
theorem wy1_zero : ∀ (n : Nat) (e : Int), rsum (fun y => if y = 0 then (1 : Int) else 0) 0 n e = n * (if e = 0 then 1 else 0)
  | 0, e => by
    rw [Int.natCast_zero, Int.zero_mul]
    rfl
  | n + 1, e => by
    show rsum _ 0 n e + (if e - n * 0 = 0 then (1 : Int) else 0) = _
    rw [wy1_zero n e, Int.mul_zero, Int.sub_zero, Int.natCast_succ, Int.add_mul, Int.one_mul]
def sp__law_termsD (K : PySem.W.Frag) (k : Nat) : Sp := fun vs H Q _ => ∃ (v : V) (b : List Ins), vs = [v] ∧ PV K H v b ∧ dpP b < k ∧ k ≤ 3 ∧ WP b ∧ NP b ∧ cnP b ≤ 1024 ∧
  ∀ D ys ts H', Same H H' → H D = none → H' D = some (.lst ys) → LTVs K H' ys ts → (∀ x, tvs ts x = seP b x) → (∀ t ∈ ts, LOk (dpP b + 1) t) → ts.length ≤ cnP b → Q (.ref D) H'
def sp__law_due (K : PySem.W.Frag) : Sp := fun vs H Q _ => ∃ (p : Int) (v : V) (x : Int) (b : List Ins), vs = [.int p, v, .int x] ∧ 0 < p ∧ PV K H v b ∧ dpP b < 2 ∧ WP b ∧ NP b ∧ cnP b ≤ 1024 ∧ ∀ H', Same H H' → Q (.int (seP b x % p)) H'
end DR
namespace DR
open PySem PySem.Spec PyProof.Rows L2
/-! ### any of a list of ints; an entry of a list that is added to -/
theorem truth_ints {prog : Program} {w : World} {A : Around} {ns : List Int} {its : List Value} (rv : Vals (ns.map V.int) its) :
    TruthOf prog w A (fun i v => its.toArray[i]? = some v) (fun i => (ns.map fun x => x != 0).getD i false) := fun i v s Q E hv hq => by
  have hv' : its[i]? = some v := List.getElem?_toArray ▸ hv
  have hlen : i < ns.length := by
    have h1 := rv.length
    rw [List.length_map] at h1
    rw [h1]
    exact (List.getElem?_eq_some_iff.mp hv').1
  have gx : (ns.map V.int)[i]? = some (.int ns[i]) := by
    rw [List.getElem?_map, List.getElem?_eq_getElem hlen]
    rfl
  obtain ⟨u, hu, ru⟩ := rv.get gx
  rw [hv'] at hu
  cases hu
  obtain ⟨t, rfl⟩ := ru
  have hg : (ns.map fun x => x != 0).getD i false = (ns[i] != 0) := by
    rw [List.getD_eq_getElem?_getD, List.getElem?_map, List.getElem?_eq_getElem hlen]
    rfl
  have hq' : Q ((ns.map fun x => x != 0).getD i false) s := hq
  rw [hg] at hq'
  exact truthy_int hq'
def rAnyI (K : PySem.W.Frag) : List V → Hp → VK → Prop := fun vs H Q => ∃ (a : Addr) (ns : List Int), vs = [V.ref a] ∧ SqL K H a (ns.map V.int) ∧ Q (.bl ((ns.map fun x => x != 0).any id)) H
theorem cr_anyI {X : Cx} (calm : X.calm = true) : CallR X (.builtin "any") (rAnyI X.K) := by
  intro pins now σ G given us K I r told
  obtain ⟨l, ns, rfl, seen, told⟩ := told
  obtain ⟨items, alike, there, _⟩ := I.list seen
  have count : items.length = ns.length := by simpa using alike.length.symm
  rw [Vals.ref1 r]
  refine call_any_walk (iter_any there.isList ?_)
  rintro mid rfl walk apart
  have over := Walks.list (prog := X.prog) (w := X.w) (A := X.A.in1) (I.ok.hd calm) _ l apart items.toArray
  refine ⟨_, _, _, _, _, _, _, rfl, over, walk, truth_ints alike, fun g toks kept => ⟨.bl _, G, ?_, ?_, told⟩⟩
  · refine I.kept fun b u old => kept b u (fun among => ?_) (Heap.get?_push_of_some _ old)
    have e := List.mem_singleton.mp among
    have below := Heap.lt_size old
    rw [e] at below
    exact absurd below (Nat.lt_irrefl _)
  · have range : (List.range items.toArray.size).any (fun i => (ns.map fun x => x != 0).getD i false) = (ns.map fun x => x != 0).any id := by
      rw [← L2.any_range, List.size_toArray, List.length_map, count]
    exact congrArg Value.bool range
def rGetP (K : PySem.W.Frag) : V → V → Hp → VK → Prop := fun o i H Q => ∃ (p : Addr) (xs : List V) (n : Nat) (v : V), o = .ref p ∧ i = .int (n : Int) ∧ SqL K H p xs ∧ xs[n]? = some v ∧ Q v H
theorem get_listP {X : Cx} : PGet X (rGetP X.K) := by
  intro pins s σ H o i ov iv Q I ro ri h
  obtain ⟨p, xs, n, v, rfl, rfl, hq, he, q⟩ := h
  cases ro
  obtain ⟨t, rfl⟩ := ri
  obtain ⟨items, r, pl, _⟩ := I.list hq
  obtain ⟨w, ew, rw'⟩ := r.get he
  have hn : n < xs.length := (List.getElem?_eq_some_iff.mp he).1
  have h63 := line63
  exact wpAny_getItem_list pl.isList (by omega) (by omega) (by rw [Int.toNat_natCast]; simpa using ew) ⟨v, H, I, rw', q⟩
/-! ### comprehensions of ints -/
theorem lcInt {ta : TA} {σ : L2.St} {H : Hp} {vs : List Nat} {i : Nat} {te : TE} {Q : VK} (F : Nat → Int) (n : Nat) (hn : n ≤ 100000) (ha : ∀ R : List V → Hp → Prop, R [V.int (n : Int)] H → ta σ H R)
    (hw : ∀ x, wipe ((wipe σ vs).set i (some x)) vs = wipe σ vs)
    (he : ∀ (m : Nat), m < n → ∀ H2, Same H H2 → ∀ S : VK, (∀ H3, Same H2 H3 → S (.int (F m)) H3) → te ((wipe σ vs).set i (some (.int (0 + (m : Int))))) H2 S)
    (k : ∀ D H2, H D = none → Same H H2 → H2 D = some (.lst (((List.range n).map F).map V.int)) → Q (.ref D) H2) : tLc (iRng1 ta) (gName i) tYes te vs σ H Q := by
  refine ha _ ?_
  refine ⟨(n : Int), rfl, by omega, by omega, fun D nD => lc_range (lo := 0) (n := ((n : Int)).toNat) (fun m H2 => H2 D = some (.lst (((List.range m).map F).map V.int)) ∧ Same H H2) ⟨upd_same, same_new nD⟩ ?_ ?_⟩
  · rintro m H2 hm ⟨hD, s2⟩
    rw [Int.toNat_natCast] at hm
    refine ⟨hw _, ?_⟩
    dsimp only [tYes]
    rw [if_pos rfl]
    refine he m hm H2 s2 _ fun H3 s3 => ?_
    refine ⟨_, s3 _ _ hD, sl_lt (by rw [List.length_map, List.length_map, List.length_range]; omega), ?_, fun x o ex => ?_⟩
    · rw [upd_same, List.range_succ, List.map_append, List.map_append]
      rfl
    · rw [upd_ne (ne_of_none ex nD)]
      exact s3 _ _ (s2 _ _ ex)
  · rintro H2 ⟨hD, s2⟩
    rw [Int.toNat_natCast] at hD
    exact k D H2 nD s2 hD
theorem lcZipI {K : PySem.W.Frag} {ta : TA} {σ : L2.St} {H : Hp} {vs : List Nat} {i j : Nat} {te : TE} {Q : VK} {a b : Addr} {ns ms : List Int} (F : Int → Int → Int) (ha : ∀ R : List V → Hp → Prop, R [V.ref a, V.ref b] H → ta σ H R) (h1 : SqL K H a (ns.map V.int)) (h2 : SqL K H b (ms.map V.int)) (hl : ns.length = ms.length) (hn : ns.length ≤ 100000)
    (hw : ∀ x y, wipe (((wipe σ vs).set i (some x)).set j (some y)) vs = wipe σ vs)
    (he : ∀ x ∈ ns, ∀ y ∈ ms, ∀ H2, Same H H2 → ∀ S : VK, S (.int (F x y)) H2 → te (((wipe σ vs).set i (some (.int x))).set j (some (.int y))) H2 S)
    (k : ∀ D H2, H D = none → Same H H2 → H2 D = some (.lst ((List.zipWith F ns ms).map V.int)) → Q (.ref D) H2) : tLc (RZ.iZipA K ta) (gTup K 2 (gCons (gName i) (gCons (gName j) gNil))) tYes te vs σ H Q := by
  refine ha _ ?_
  refine ⟨a, b, _, _, rfl, .inl ⟨h1, h2, fun D nD => ?_⟩⟩
  refine lc_it (walk_zip (K := K) (a := a) (b := b) (xs := ns.map V.int) (ys := ms.map V.int) (n := ns.length) (by rw [List.length_map, List.length_map]; omega)) (fun m H2 => H2 D = some (.lst (((List.zipWith F ns ms).take m).map V.int)) ∧ Same H H2) ⟨upd_same, same_new nD⟩ ?_ ?_ ?_
  · rintro m H2 _ ⟨_, s2⟩
    exact ⟨same_l s2 h1, same_l s2 h2⟩
  · rintro m v H2 H3 hm ⟨hD, s2⟩ ⟨T, x, y, rfl, nT, rfl, gx, gy⟩
    have hm2 : m < ms.length := by omega
    have gx : (ns.map V.int)[m]? = some x := gx
    have gy : (ms.map V.int)[m]? = some y := gy
    have ex : x = .int ns[m] := by
      rw [List.getElem?_map, List.getElem?_eq_getElem hm] at gx
      exact (Option.some.inj gx).symm
    have ey : y = .int ms[m] := by
      rw [List.getElem?_map, List.getElem?_eq_getElem hm2] at gy
      exact (Option.some.inj gy).symm
    subst ex
    subst ey
    have s3 := same_new nT (o := HO.tup [V.int ns[m], V.int ms[m]])
    refine ⟨T, _, rfl, SqT.of upd_same, rfl, _, _, rfl, ?_⟩
    refine ⟨_, _, rfl, rfl, hw _ _, ?_⟩
    dsimp only [tYes]
    rw [if_pos rfl]
    refine he _ (List.getElem_mem hm) _ (List.getElem_mem hm2) _ (s2.trans s3) _ ?_
    refine ⟨_, s3 _ _ hD, sl_lt (by rw [List.length_map, List.length_take]; omega), ?_, fun x o ex => ?_⟩
    · have hz : m < (List.zipWith F ns ms).length := by rw [List.length_zipWith]; omega
      rw [upd_same, List.take_succ_eq_append_getElem hz, List.map_append]
      show _ = some (HO.lst (_ ++ [V.int (List.zipWith F ns ms)[m]]))
      rw [List.getElem_zipWith]
    · rw [upd_ne (ne_of_none ex nD)]
      exact s3 _ _ (s2 _ _ ex)
  · rintro H2 ⟨hD, s2⟩
    have : (List.zipWith F ns ms).take ns.length = List.zipWith F ns ms := List.take_of_length_le (by rw [List.length_zipWith]; omega)
    rw [this] at hD
    exact k D H2 nD s2 hD
end DR
namespace DR
open PySem PySem.Spec PyProof.Rows L2
/-! ### two rounds, counted one by one -/
theorem rsum_filter (p : Int → Bool) (a d : Int) : ∀ N : Nat, rsum (fun y => if p y = true then (1 : Int) else 0) a N d = ((((List.range N).map fun k : Nat => d - (k : Int) * a).filter p).length : Int)
  | 0 => rfl
  | N + 1 => by
    rw [List.range_succ, List.map_append, List.filter_append, List.length_append]
    show rsum _ a N d + _ = _
    rw [rsum_filter p a d N, List.map_cons, List.map_nil]
    have e1 : (if p (d - (N : Int) * a) = true then (1 : Int) else 0) = ((([d - (N : Int) * a] : List Int).filter p).length : Int) := by
      cases h : p (d - (N : Int) * a) with
      | true => rw [List.filter_cons_of_pos h, if_pos rfl]; rfl
      | false => rw [List.filter_cons_of_neg (by rw [h]; decide), if_neg (by decide)]; rfl
    show _ + (if p (d - (N : Int) * a) = true then (1 : Int) else 0) = _
    rw [e1]
    rfl
def onB (b m : Int) (e : Int) : Bool := decide (e % b = 0) && (decide (0 ≤ e / b) && decide (e / b < m))
theorem on_one {b : Int} (hb : 0 < b) {m : Int} (hm : 0 ≤ m) (e : Int) : rsum (fun y => if y = 0 then (1 : Int) else 0) b m.toNat e = if onB b m e = true then 1 else 0 := by
  rw [wy_one hb]
  have hm2 : ((m.toNat : Nat) : Int) = m := Int.toNat_of_nonneg hm
  rw [hm2]
  congr 1
  unfold onB
  simp only [Bool.and_eq_true, decide_eq_true_eq]
  apply propext
  constructor
  · rintro ⟨h1, h2, h3⟩
    refine ⟨Int.emod_eq_zero_of_dvd h1, Int.ediv_nonneg h2 (by omega), ?_⟩
    exact Int.ediv_lt_of_lt_mul hb h3
  · rintro ⟨h1, h2, h3⟩
    have e1 := Int.emod_add_mul_ediv e b
    rw [h1, Int.zero_add] at e1
    refine ⟨⟨_, e1.symm⟩, ?_, ?_⟩
    · rw [← e1]
      exact Int.mul_nonneg (by omega) h2
    · rw [← e1, Int.mul_comm]
      exact Int.mul_lt_mul_of_pos_right h3 hb
theorem wy_list {n a m b d : Int} (hb : 0 < b) (hm : 0 ≤ m) : wy [(n, a), (m, b)] d = ((((List.range n.toNat).map fun k : Nat => d - (k : Int) * a).filter (onB b m)).length : Int) := by
  rw [← rsum_filter]
  show rsum (fun y => rsum (fun z => if z = 0 then (1 : Int) else 0) b m.toNat y) a n.toNat d = _
  refine rsum_congr (fun y => ?_) _ _
  exact on_one hb hm y
/-! ### two rounds, by the least place -/
theorem low_high {P r lo hi : Int} (hP : 0 < P) : (if lo + (r - lo) % P ≤ hi then (hi - (lo + (r - lo) % P)) / P + 1 else 0) = max 0 ((hi - r) / P - (lo - 1 - r) / P) := by
  have m0 := Int.emod_nonneg (r - lo) (by omega : P ≠ 0)
  have m1 := Int.emod_lt_of_pos (r - lo) hP
  have e := Int.emod_add_mul_ediv (r - lo) P
  generalize (r - lo) % P = x at m0 m1 e ⊢
  generalize (r - lo) / P = k at e ⊢
  have e1 : (hi - r) / P = (hi - (lo + x)) / P - k := by
    rw [show hi - r = (hi - (lo + x)) + (-k) * P by rw [Int.neg_mul, Int.mul_comm k P]; omega, Int.add_mul_ediv_right _ _ (by omega)]
    omega
  have e2 : (lo - 1 - r) / P = -1 - k := by
    rw [show lo - 1 - r = (-1 - x) + (-k) * P by rw [Int.neg_mul, Int.mul_comm k P]; omega, Int.add_mul_ediv_right _ _ (by omega)]
    have : (-1 - x) / P = -1 := by
      have := Int.ediv_emod_unique hP (a := -1 - x) (r := P - 1 - x) (q := -1)
      exact (this.mpr ⟨by omega, by omega, by omega⟩).1
    omega
  rw [e1, e2]
  generalize hq : (hi - (lo + x)) / P = q
  split
  · rename_i h
    have : 0 ≤ q := by rw [← hq]; exact Int.ediv_nonneg (by omega) (by omega)
    omega
  · rename_i h
    have : q < 0 := by rw [← hq]; exact Int.ediv_neg_of_neg_of_pos (by omega) hP
    omega
theorem pairs_by {n a m b d g x : Int} (hn : 1 ≤ n) (hm : 1 ≤ m) (ha : 0 < a) (hb : 0 < b) (hg : 0 < g) (ga : g ∣ a) (gb : g ∣ b) (gd : g ∣ d) (hx : b / g ∣ a / g * x - 1) :
    wy [(n, a), (m, b)] d = (if max 0 (0 - ((m - 1) * b - d) / a) + (d / g * x % (b / g) - max 0 (0 - ((m - 1) * b - d) / a)) % (b / g) ≤ min (n - 1) (d / a) then (min (n - 1) (d / a) - (max 0 (0 - ((m - 1) * b - d) / a) + (d / g * x % (b / g) - max 0 (0 - ((m - 1) * b - d) / a)) % (b / g))) / (b / g) + 1 else 0) := by
  have hP : 0 < b / g := by
    obtain ⟨P, e⟩ := gb
    rw [e, Int.mul_ediv_cancel_left P (by omega)]
    exact Int.pos_of_mul_pos_right (by omega : 0 < g * P) (by omega)
  have hf : b ∣ a * x - g := by
    obtain ⟨P, eb⟩ := gb
    obtain ⟨a', ea⟩ := ga
    rw [eb, Int.mul_ediv_cancel_left P (by omega), ea, Int.mul_ediv_cancel_left a' (by omega)] at hx
    rw [eb, ea, show g * a' * x - g = g * (a' * x - 1) by rw [Int.mul_sub, Int.mul_one, Int.mul_assoc]]
    exact Int.mul_dvd_mul_left g hx
  have h := wy_two (m := m.toNat) ha hb hg ga gb hf gd n.toNat
  have hm2 : ((m.toNat : Nat) : Int) = m := Int.toNat_of_nonneg (by omega)
  have hn2 : ((n.toNat : Nat) : Int) = n := Int.toNat_of_nonneg (by omega)
  rw [hm2] at h
  have h2 : wy [(n, a), (m, b)] d = cnt (-((b * (m - 1) - d) / a)) (d / a) (b / g) (d / g * x % (b / g)) n.toNat := h
  rw [h2, cnt_eq hP, hn2, low_high hP, Int.zero_sub, Int.mul_comm b (m - 1)]
def sp__law_common : Sp := fun vs H Q _ => ∃ (a b : Int), vs = [.int a, .int b] ∧ 0 < a ∧ 0 < b ∧ a.natAbs < 2 ^ 400 ∧ b.natAbs < 2 ^ 400 ∧ ∀ g, 0 < g → g ∣ a → g ∣ b → (∀ c, c ∣ a → c ∣ b → c ∣ g) → Q (.int g) H
def sp__law_pairs (K : PySem.W.Frag) : Sp := fun vs H Q _ => ∃ (x y : V) (n a m b d : Int), vs = [x, y, .int d] ∧ IsPr K H x (n, a) ∧ IsPr K H y (m, b) ∧ 1 ≤ n ∧ n ≤ 2 ^ 100 ∧ 1 ≤ m ∧ m ≤ 2 ^ 100 ∧ 1 ≤ a ∧ a ≤ 2 ^ 331 ∧ 1 ≤ b ∧ b ≤ 2 ^ 331 ∧ d.natAbs < 2 ^ 500 ∧
  ∀ H', Same H H' → Q (.int (wy [(n, a), (m, b)] d)) H'
def sp__law_mod_inverse : Sp := fun vs H Q _ => ∃ (n m : Int), vs = [.int n, .int m] ∧ 0 < m ∧ n.natAbs < 2 ^ 400 ∧ m.natAbs < 2 ^ 400 ∧ (∀ c, c ∣ n → c ∣ m → c ∣ 1) ∧ ∀ x H', Same H H' → 0 ≤ x → x < m → m ∣ n * x - 1 → Q (.int x) H'
theorem co_div {a b g : Int} (hg : 0 < g) (ga : g ∣ a) (gb : g ∣ b) (hc : ∀ c, c ∣ a → c ∣ b → c ∣ g) : ∀ c, c ∣ a / g → c ∣ b / g → c ∣ 1 := fun c h1 h2 => by
  obtain ⟨a', ea⟩ := ga
  obtain ⟨b', eb⟩ := gb
  rw [ea, Int.mul_ediv_cancel_left a' (by omega)] at h1
  rw [eb, Int.mul_ediv_cancel_left b' (by omega)] at h2
  have h := hc (g * c) (by rw [ea]; exact Int.mul_dvd_mul_left g h1) (by rw [eb]; exact Int.mul_dvd_mul_left g h2)
  obtain ⟨k, ek⟩ := h
  refine ⟨k, ?_⟩
  have : g * 1 = g * (c * k) := by rw [Int.mul_one, ← Int.mul_assoc]; exact ek
  exact Int.eq_of_mul_eq_mul_left (by omega) this
/-- [x for x in a list of ints if ..] -/
theorem lcFilI {K : PySem.W.Frag} {tv' : TE} {σ : L2.St} {H : Hp} {vs : List Nat} {i : Nat} {tt : TT} {te : TE} {Q : VK} {a : Addr} {ns : List Int} (p : Int → Bool) (hv : ∀ R : VK, R (.ref a) H → tv' σ H R) (h1 : SqL K H a (ns.map V.int)) (hn : ns.length ≤ 100000)
    (hw : ∀ x, wipe ((wipe σ vs).set i (some x)) vs = wipe σ vs)
    (ht : ∀ x ∈ ns, ∀ H2, Same H H2 → ∀ S : Bool → Hp → Prop, S (p x) H2 → tt ((wipe σ vs).set i (some (.int x))) H2 S)
    (he : ∀ x H2 (S : VK), S (.int x) H2 → te ((wipe σ vs).set i (some (.int x))) H2 S)
    (k : ∀ D H2, H D = none → Same H H2 → H2 D = some (.lst ((ns.filter p).map V.int)) → Q (.ref D) H2) : tLc (iList K tv') (gName i) tt te vs σ H Q := by
  refine hv _ ?_
  refine ⟨a, rfl, ⟨_, h1⟩, fun D nD => ?_⟩
  refine lc_it (walk_list (K := K) (a := a) (xs := ns.map V.int)) (fun m H2 => H2 D = some (.lst (((ns.take m).filter p).map V.int)) ∧ Same H H2) ⟨upd_same, same_new nD⟩ ?_ ?_ ?_
  · rintro m H2 _ ⟨_, s2⟩
    exact same_l s2 h1
  · rintro m v H2 H3 hm ⟨hD, s2⟩ ⟨rfl, gv⟩
    rw [List.length_map] at hm
    have ev : v = .int ns[m] := by
      rw [List.getElem?_map, List.getElem?_eq_getElem hm] at gv
      exact (Option.some.inj gv).symm
    subst ev
    refine ⟨hw _, ?_⟩
    refine ht _ (List.getElem_mem hm) _ s2 _ ?_
    have et : (ns.take (m + 1)).filter p = (ns.take m).filter p ++ [ns[m]].filter p := by rw [List.take_succ_eq_append_getElem hm, List.filter_append]
    cases hp : p ns[m] with
    | true =>
      rw [if_pos rfl]
      refine he _ _ _ ?_
      have hlen := List.length_filter_le p (ns.take m)
      rw [List.length_take] at hlen
      refine ⟨_, hD, sl_lt (by rw [List.length_map]; omega), ?_, fun x o ex => ?_⟩
      · rw [upd_same, et, List.filter_cons_of_pos hp, List.map_append]
        rfl
      · rw [upd_ne (ne_of_none ex nD)]
        exact s2 _ _ ex
    | false =>
      rw [if_neg (by decide)]
      refine ⟨?_, s2⟩
      rw [hD, et, List.filter_cons_of_neg (by rw [hp]; decide)]
      show _ = some (HO.lst (((ns.take m).filter p ++ []).map V.int))
      rw [List.append_nil]
  · rintro H2 ⟨hD, s2⟩
    rw [List.length_map, List.take_length] at hD
    exact k D H2 nD s2 hD
/-! ### rounds of any stride -/
def RsAny (rs : Pol) : Prop := ∀ r ∈ rs, 1 ≤ r.1 ∧ r.1 ≤ 2 ^ 100 ∧ r.2.natAbs ≤ 2 ^ 331
def sp__law_ways (K : PySem.W.Frag) : Sp := fun vs H Q _ => ∃ (v : V) (rs : Pol) (d : Int), vs = [v, .int d] ∧ TPol K H v rs ∧ rs.length ≤ 2 ∧ RsAny rs ∧ d.natAbs < 2 ^ 395 ∧ ∀ H', Same H H' → Q (.int (wy rs d)) H'
theorem wy_mid (ls rest : Pol) (r : Int × Int) (d : Int) : wy (ls ++ r :: rest) d = wy (r :: (ls ++ rest)) d := wy_perm List.perm_middle d
theorem wy_still {n : Int} (hn : 1 ≤ n) (ls rest : Pol) (d : Int) : wy (ls ++ (n, 0) :: rest) d = n * wy (ls ++ rest) d := by
  rw [wy_mid, wy_cons, rsum_const]
  have : ((n.toNat : Nat) : Int) = n := Int.toNat_of_nonneg (by omega)
  show ((n.toNat : Nat) : Int) * _ = _
  rw [this]
theorem wy_turn {n s : Int} (hn : 1 ≤ n) (ls rest : Pol) (d : Int) : wy (ls ++ (n, s) :: rest) d = wy (ls ++ (n, -s) :: rest) (d - (n - 1) * s) := by
  rw [wy_mid, wy_mid, wy_cons, wy_cons]
  obtain ⟨k, hk⟩ : ∃ k : Nat, n.toNat = k + 1 := ⟨n.toNat - 1, by omega⟩
  have hk2 : n - 1 = (k : Int) := by omega
  show rsum _ s n.toNat d = rsum _ (-s) n.toNat _
  rw [hk, rsum_back, hk2]
theorem wy_end {ls : Pol} {m s : Int} (hs : 0 < s) (hm : 0 ≤ m) (d : Int) : wy [(m, s)] d = if onB s m d = true then 1 else 0 := on_one hs hm d
def sp__law_full_programR (K : PySem.W.Frag) : Sp := fun vs H Q _ => ∃ (p c : Addr) (n : Nat), vs = [.ref p] ∧ PenAt H p c n ∧ n < 2 ^ 37 ∧
  ∀ F xs b H', Kp p H H' → PenAt H' p c (n + 500) → H' F = some (.lst xs) → IVs K H' xs b → PrR b 2 1000 (10 ^ 31) → Q (.ref F) H'
def sp__law_nested (K : PySem.W.Frag) : Sp := fun vs H Q _ => ∃ (p c : Addr) (n : Nat), vs = [.ref p] ∧ PenAt H p c n ∧ n < 2 ^ 37 ∧
  ∀ F xs b H', Kp p H H' → PenAt H' p c (n + 100) → H' F = some (.lst xs) → IVs K H' xs b → PrR b 2 100 (10 ^ 31) → Q (.ref F) H'
def sp__law_value (K : PySem.W.Frag) : Sp := fun vs H Q _ => ∃ (p : Int) (v : V) (x : Int) (b : List Ins), vs = [.int p, v, .int x] ∧ 0 < p ∧ PV K H v b ∧ dpP b < 3 ∧ WP b ∧ NP b ∧ cnP b ≤ 1024 ∧ x.natAbs ≤ 2 ^ 340 ∧ ∀ H', Same H H' → Q (.int (seP b x % p)) H'
theorem wy_ltA : ∀ {rs : Pol} (_ : RsAny rs) (_ : rs.length ≤ 2) (d : Int), (wy rs d).natAbs < 2 ^ 201
  | rs, h, hl, d => by
    have hb := wy_bd rs d
    have e : ∀ r ∈ rs, (r.1.toNat : Int) ≤ 2 ^ 100 := fun r hr => by
      have := h r hr
      omega
    cases rs with
    | nil => rw [wy_nil]; split <;> decide
    | cons r l =>
      cases l with
      | nil =>
        have h1 : wy [r] d ≤ (r.1.toNat : Int) * 1 := hb.2
        have h2 := e r List.mem_cons_self
        have h3 := hb.1
        have h4 : (2 : Nat) ^ 100 < 2 ^ 201 := by decide +kernel
        omega
      | cons r2 l2 =>
        have e0 : l2 = [] := by
          cases l2 with
          | nil => rfl
          | cons _ _ => simp at hl
        subst e0
        have h1 : wy [r, r2] d ≤ (r.1.toNat : Int) * ((r2.1.toNat : Int) * 1) := hb.2
        have h2 := e r List.mem_cons_self
        have h2' := e r2 (List.mem_cons_of_mem _ List.mem_cons_self)
        have h5 : (r.1.toNat : Int) * ((r2.1.toNat : Int) * 1) ≤ 2 ^ 100 * 2 ^ 100 := Int.mul_le_mul h2 (by omega) (by omega) (by decide)
        have h3 := hb.1
        have h4 : (2 : Int) ^ 100 * 2 ^ 100 < 2 ^ 201 := by decide +kernel
        omega
/-- [an int for co, pl, rounds in a list of terms] -/
theorem lcLT {K : PySem.W.Frag} {a : Addr} {xs : List V} {ts : List Tm} {σ : L2.St} {H : Hp} {vs : List Nat} {i j l : Nat} {te tv' : TE} {Q : VK} (G : Tm → Int) (hv : ∀ R : VK, R (.ref a) H → tv' σ H R) (hs : SqL K H a xs) (hP : LTVs K H xs ts) (hl : ts.length ≤ 100000)
    (hw : ∀ x y z, wipe ((((wipe σ vs).set i (some x)).set j (some y)).set l (some z)) vs = wipe σ vs)
    (he : ∀ t ∈ ts, ∀ x H2, Same H H2 → TPol K H2 x t.rs → ∀ R : VK, (∀ H3, Same H2 H3 → R (.int (G t)) H3) → te ((((wipe σ vs).set i (some (.int t.co))).set j (some (.int t.pl))).set l (some x)) H2 R)
    (k : ∀ D H2, H D = none → Same H H2 → H2 D = some (.lst ((ts.map G).map V.int)) → Q (.ref D) H2) : tLc (iList K tv') (gTup K 3 (gCons (gName i) (gCons (gName j) (gCons (gName l) gNil)))) tYes te vs σ H Q := by
  refine hv _ ⟨a, rfl, ⟨_, hs⟩, fun D nD => lc_list (K := K) (a := a) (xs := xs) (fun m H2 => Same H H2 ∧ H2 D = some (.lst (((ts.take m).map G).map V.int))) ⟨same_new nD, upd_same⟩ (fun m H2 _ g => same_l g.1 hs) ?_ ?_⟩
  · rintro m x H2 hm ⟨s2, h2⟩
    obtain ⟨t, ht, b, y, rfl, hb, hy⟩ := hP.get hm
    refine ⟨b, _, rfl, same_t s2 hb, rfl, _, _, rfl, _, _, rfl, _, _, rfl, rfl, hw _ _ _, ?_⟩
    dsimp only [tYes]
    rw [if_pos rfl]
    have hm2 : m < ts.length := (List.getElem?_eq_some_iff.mp ht).1
    refine he t (List.mem_of_getElem? ht) y H2 s2 (hy.tp (Same.tp s2)) _ fun H3 s3 => ⟨_, s3 _ _ h2, sl_lt (by rw [List.length_map, List.length_map, List.length_take]; omega), same_mut (s2.trans s3) nD, ?_⟩
    rw [upd_same, take_snoc ht, List.map_append, List.map_append]
    rfl
  · rintro H2 ⟨s2, h2⟩
    rw [hP.len, List.take_length] at h2
    exact k D H2 nD s2 h2
theorem WP_takeN : ∀ (b : List Ins) (j : Nat), WP b → WP (b.take j)
  | _, 0, _ => by rw [List.take_zero, WP]; trivial
  | [], _ + 1, h => by rw [List.take_nil]; exact h
  | i :: r, j + 1, h => by
    rw [WP] at h
    rw [List.take_succ_cons, WP]
    exact ⟨h.1, WP_takeN r j h.2⟩
theorem dpP_takeN (b : List Ins) (j : Nat) : dpP (b.take j) ≤ dpP b := by
  have e := dpP_app (b.take j) (b.drop j)
  rw [List.take_append_drop] at e
  omega
theorem sh_take {b : List Ins} {k : Nat} (h : dpP b < k) (hk : k ≤ 3) (w : WP b) (l : b.length ≤ 1024) (j : Nat) : (shP (b.take j)).natAbs ≤ 2 ^ 331 := by
  have h1 := dpP_takeN b j
  exact Nat.le_of_lt (sh_lt (k := k) (by omega) hk (WP_takeN b j w) (by rw [List.length_take]; omega))
structure LOkP (k : Nat) (t : Tm) : Prop where
  co : t.co.natAbs ≤ 2 ^ 100
  len : t.rs.length + 1 ≤ k
  rs : ∀ r ∈ t.rs, 1 ≤ r.1 ∧ r.1 ≤ 2 ^ 100 ∧ r.2.natAbs ≤ 2 ^ 331
  at_ : t.pl.natAbs ≤ k * 2 ^ 331
def sp__law_termsP (K : PySem.W.Frag) (k : Nat) : Sp := fun vs H Q _ => ∃ (v : V) (b : List Ins), vs = [v] ∧ PV K H v b ∧ dpP b < k ∧ k ≤ 3 ∧ WP b ∧ NP b ∧ cnP b ≤ 1024 ∧
  ∀ D ys ts H', Same H H' → H D = none → H' D = some (.lst ys) → LTVs K H' ys ts → (∀ x, tvs ts x = seP b x) → (∀ t ∈ ts, LOkP (dpP b + 1) t) → ts.length ≤ cnP b → Q (.ref D) H'
end DR
/-! ### the cuts of a drawn program -/
namespace DR
open PySem PySem.Spec PyProof.Rows L2
/-- the j-th cut -/
def cutN (cu : List Int) (j : Nat) : Nat := (cu.getD j 0).toNat
theorem cuts_end {ns : List Int} (z : Int) {n : Nat} (h : ns.length = n) : cutN (0 :: (ns ++ [z])) (n + 1) = z.toNat := by
  unfold cutN
  rw [List.getD_cons_succ, List.getD_eq_getElem?_getD, List.getElem?_append_right (by omega), h, Nat.sub_self]
  rfl
theorem cuts_up {ns : List Int} {z : Int} {n : Nat} (so : ns.Pairwise (· ≤ ·)) (hb : ∀ r ∈ ns, 0 ≤ r ∧ r ≤ z) (hz : 0 ≤ z) (h : ns.length = n) : ∀ j, j < n + 1 → cutN (0 :: (ns ++ [z])) j ≤ cutN (0 :: (ns ++ [z])) (j + 1) := by
  have all : (0 :: (ns ++ [z]) : List Int).Pairwise (· ≤ ·) := List.pairwise_cons.mpr ⟨fun x hx => by
    rcases List.mem_append.mp hx with g | g
    · exact (hb x g).1
    · cases List.mem_singleton.mp g
      exact hz, List.pairwise_append.mpr ⟨so, List.pairwise_singleton _ _, fun a ha c hc => by
    cases List.mem_singleton.mp hc
    exact (hb a ha).2⟩⟩
  intro j hj
  have l : (0 :: (ns ++ [z]) : List Int).length = n + 2 := by simp [h]
  have := List.pairwise_iff_getElem.mp all j (j + 1) (by omega) (by omega) (by omega)
  unfold cutN
  rw [List.getD_eq_getElem?_getD, List.getElem?_eq_getElem (by omega), List.getD_eq_getElem?_getD, List.getElem?_eq_getElem (by omega)]
  exact Int.toNat_le_toNat this
/-- a slice between two cuts is no longer than they are apart -/
theorem cut_len {cu : List Int} {j : Nat} (hj : j + 1 < cu.length) (pos : ∀ r ∈ cu, 0 ≤ r) (up : cutN cu j ≤ cutN cu (j + 1)) (n : Nat) : HT.sIx n n (some cu[j + 1]) - HT.sIx n 0 (some cu[j]) ≤ cutN cu (j + 1) - cutN cu j := by
  have p1 := pos _ (List.getElem_mem (show j < cu.length by omega))
  have p2 := pos _ (List.getElem_mem hj)
  have e1 : HT.sIx n n (some cu[j + 1]) = min (cutN cu (j + 1)) n := by
    unfold HT.sIx cutN
    rw [List.getD_eq_getElem?_getD, List.getElem?_eq_getElem hj]
    exact if_neg (by omega)
  have e2 : HT.sIx n 0 (some cu[j]) = min (cutN cu j) n := by
    unfold HT.sIx cutN
    rw [List.getD_eq_getElem?_getD, List.getElem?_eq_getElem (show j < cu.length by omega)]
    exact if_neg (by omega)
  rw [e1, e2]
  omega
end DR
/-! ### programs within the bounds of the document -/
namespace DR
open PySem PySem.Spec PyProof.Rows L2
structure GdP (b : List Ins) (k N m : Nat) : Prop where
  d : dpP b ≤ k
  g : CtP b
  c : cnP b ≤ N
  r : rpP b ≤ m
theorem ctP_app : ∀ {a b : List Ins}, CtP a → CtP b → CtP (a ++ b)
  | [], b, _, h => h
  | i :: r, b, h, h2 => by
    rw [List.cons_append, CtP_cons]
    rw [CtP_cons] at h
    exact ⟨h.1, ctP_app h.2 h2⟩
theorem rpP_app : ∀ a b : List Ins, rpP (a ++ b) = rpP a + rpP b
  | [], b => by rw [List.nil_append, rpP_nil, Nat.zero_add]
  | i :: r, b => by rw [List.cons_append, rpP_cons, rpP_cons, rpP_app r b, Nat.add_assoc]
theorem GdP.app {b c : List Ins} {k j N M m l : Nat} (h : GdP b k N m) (h2 : GdP c j M l) : GdP (b ++ c) (max k j) (N + M) (m + l) :=
  ⟨by rw [dpP_app]; have := h.d; have := h2.d; omega, ctP_app h.g h2.g, by rw [cnP_app]; have := h.c; have := h2.c; omega, by rw [rpP_app]; have := h.r; have := h2.r; omega⟩
theorem GdP.rep {b : List Ins} {k N m : Nat} {n : Int} (h : GdP b k N m) (h0 : 0 ≤ n) (h9 : n ≤ 10 ^ 30) : GdP [.rep n b] (k + 1) (N + 1) (m + 1) := by
  refine ⟨?_, ?_, ?_, ?_⟩
  · rw [dpP_cons, dpI, dpP_nil']
    have := h.d
    omega
  · rw [CtP_cons, CtI]
    exact ⟨⟨h0, h9, h.g⟩, by unfold CtP; trivial⟩
  · rw [cnP_cons, cnI, cnP_nil']
    have := h.c
    omega
  · rw [rpP_cons, rpI, rpP_nil]
    have := h.r
    omega
theorem GdP.up {b : List Ins} {k j N M m l : Nat} (h : GdP b k N m) (h1 : k ≤ j) (h2 : N ≤ M) (h3 : m ≤ l) : GdP b j M l := ⟨Nat.le_trans h.d h1, h.g, Nat.le_trans h.c h2, Nat.le_trans h.r h3⟩
theorem flat_gd : ∀ {b : List Ins} {N R : Nat}, Flat b N R → R ≤ 10 ^ 30 → CtP b ∧ rpP b = 0
  | [], _, _, _, _ => ⟨by unfold CtP; trivial, rpP_nil⟩
  | i :: r, N, R, h, hR => by
    have h1 := h.flat i List.mem_cons_self
    have h2 := h.cnt i List.mem_cons_self
    have ih := flat_gd (b := r) (N := N) (R := R) ⟨by have := h.len; rw [List.length_cons] at this; omega, fun j hj => h.flat j (List.mem_cons_of_mem _ hj), fun j hj => h.cnt j (List.mem_cons_of_mem _ hj)⟩ hR
    rw [CtP_cons, rpP_cons, ih.2]
    cases i with
    | step c =>
      rw [CtI, rpI]
      exact ⟨⟨Nat.le_trans h2 hR, ih.1⟩, rfl⟩
    | turn c =>
      rw [CtI, rpI]
      exact ⟨⟨Nat.le_trans h2 hR, ih.1⟩, rfl⟩
    | rep n b => exact absurd h1 id
theorem Flat.gd {b : List Ins} {N R : Nat} (h : Flat b N R) (hR : R ≤ 10 ^ 30) : GdP b 0 N 0 := ⟨Nat.le_of_eq h.dp, (flat_gd h hR).1, by rw [h.cn]; exact h.len, Nat.le_of_eq (flat_gd h hR).2⟩
theorem ct_wp : ∀ {b : List Ins} (N : Nat), N ≤ 1024 → cnP b ≤ N → CtP b → WP b
  | [], _, _, _, _ => by unfold WP; trivial
  | i :: r, N, hN, hc, h => by
    rw [CtP_cons] at h
    rw [cnP_cons] at hc
    rw [WP_cons]
    have big : (10 : Nat) ^ 30 ≤ 2 ^ 100 := by decide +kernel
    refine ⟨?_, ct_wp N hN (by omega) h.2⟩
    cases i with
    | step c =>
      rw [CtI] at h
      rw [WI]
      exact Nat.le_trans h.1 big
    | turn c =>
      rw [CtI] at h
      rw [WI]
      exact Nat.le_trans h.1 big
    | rep n b =>
      rw [CtI] at h
      rw [cnI] at hc
      rw [WI]
      have := len_cnP b
      exact ⟨Nat.le_trans (show n.natAbs ≤ 10 ^ 30 by omega) big, by omega, ct_wp N hN (by omega) h.1.2.2⟩
theorem GdP.ok {b : List Ins} {k N m : Nat} (h : GdP b k N m) (hN : N ≤ 1024) : PrOk b k N := ⟨h.d, ct_wp N hN h.c h.g, h.c⟩
def sp__law_bodyG (K : PySem.W.Frag) : Sp := fun vs H Q _ => ∃ (p c : Addr) (most reach : Int) (n : Nat), vs = [.ref p, .int most, .int reach] ∧ 0 ≤ most ∧ most ≤ 100 ∧ 0 ≤ reach ∧ reach.natAbs < 10 ^ 90 ∧ PenAt H p c n ∧ n < 2 ^ 39 ∧
  ∀ D xs b H', H D = none → Kp p H H' → PenAt H' p c (n + 3 * most.toNat + 1) → H' D = some (.lst xs) → FIs K H' xs b → Flat b most.toNat (max reach.natAbs 3) → Q (.ref D) H'
def sp__law_programG (K : PySem.W.Frag) : Sp := fun vs H Q _ => ∃ (p c : Addr) (most reach rounds : Int) (n : Nat), vs = [.ref p, .int most, .int reach, .int rounds] ∧ 0 ≤ most ∧ most ≤ 50 ∧ 0 ≤ reach ∧ reach ≤ 10 ^ 30 ∧ 0 ≤ rounds ∧ rounds ≤ 10 ^ 30 ∧ PenAt H p c n ∧ n < 2 ^ 38 ∧
  ∀ F xs b H', Kp p H H' → PenAt H' p c (n + 2000) → H' F = some (.lst xs) → IVs K H' xs b → GdP b 2 (13 * most.toNat + 6) 5 → Q (.ref F) H'
def sp__law_wide_programG (K : PySem.W.Frag) : Sp := fun vs H Q _ => ∃ (p c : Addr) (most : Int) (n : Nat), vs = [.ref p, .int most] ∧ 0 ≤ most ∧ most ≤ 50 ∧ PenAt H p c n ∧ n < 2 ^ 37 ∧
  ∀ F xs b H', Kp p H H' → PenAt H' p c (n + 2002) → H' F = some (.lst xs) → IVs K H' xs b → GdP b 2 (13 * most.toNat + 6) 5 → Q (.ref F) H'
def sp__law_full_programG (K : PySem.W.Frag) : Sp := fun vs H Q _ => ∃ (p c : Addr) (n : Nat), vs = [.ref p] ∧ PenAt H p c n ∧ n < 2 ^ 37 ∧
  ∀ F xs b H', Kp p H H' → PenAt H' p c (n + 500) → H' F = some (.lst xs) → IVs K H' xs b → GdP b 2 100 5 → Q (.ref F) H'
end DR
/-! ### texts of programs -/
namespace DR
open PySem PySem.Spec PyProof.Rows L2 TL
theorem lg_ct {c : Int} (h : c.natAbs ≤ 10 ^ 30) : c.natAbs.log2 < 1920 := by
  by_cases z : c.natAbs = 0
  · rw [z]
    decide
  · exact (Nat.log2_lt z).mpr (Nat.lt_of_le_of_lt h (by decide +kernel))
theorem tkP_snoc {b : List Ins} {j : Nat} {i : Ins} (h : b[j]? = some i) : tkP (b.take (j + 1)) = tkP (b.take j) ++ tkI i := by
  rw [take_snoc h, tkP_app, tkP_cons, tkP_nil, List.append_nil]
theorem cnP_tk (b : List Ins) (j : Nat) : cnP (b.take j) ≤ cnP b := by
  have := cnP_app (b.take j) (b.drop j)
  rw [List.take_append_drop] at this
  omega
theorem ctP_tk {b : List Ins} (h : CtP b) : ∀ j : Nat, CtP (b.take j) := by
  induction b with
  | nil => intro j; rw [List.take_nil]; exact h
  | cons i r ih =>
    intro j
    rw [CtP_cons] at h
    cases j with
    | zero => rw [List.take_zero]; unfold CtP; trivial
    | succ j =>
      rw [List.take_succ_cons, CtP_cons]
      exact ⟨h.1, ih h.2 j⟩
/-- pieces of a text: each some tokens -/
theorem piece_len : ∀ {gs : List (List Str)}, ((gs.map jn).map fun t => t.length).sum ≤ (gs.flatten.map fun t => t.length + 1).sum
  | [] => Nat.le_refl _
  | g :: r => by
    have := piece_len (gs := r)
    have := jn_len g
    rw [List.map_cons, List.map_cons, List.sum_cons, List.flatten_cons, List.map_append, List.sum_append]
    omega
theorem piece_few : ∀ {gs : List (List Str)}, (∀ g ∈ gs, g ≠ []) → gs.length ≤ gs.flatten.length
  | [], _ => Nat.le_refl _
  | g :: r, h => by
    have := piece_few (gs := r) fun x hx => h x (List.mem_cons_of_mem _ hx)
    have := List.length_pos_iff.mpr (h g List.mem_cons_self)
    rw [List.flatten_cons, List.length_append, List.length_cons]
    omega
/-- the pieces of an instruction -/
def pcI (i : Ins) : List (List Str) := match i with
  | .step c => [["step", ctS c]]
  | .turn c => [["turn", ctS c]]
  | .rep n b => [["repeat", ctS n], ([("[" : Str)] ++ (tkP b ++ [("]" : Str)]))]
theorem pcI_flat (i : Ins) : (pcI i).flatten = tkI i := by
  cases i <;> (unfold pcI tkI; simp)
theorem pcI_ne (i : Ins) : ∀ g ∈ pcI i, g ≠ [] := by
  cases i <;> (unfold pcI; intro g hg; simp at hg; first | (rcases hg with rfl | rfl <;> simp) | (subst hg; simp))
theorem jn_word (w : Str) (c : Int) : jn [w, ctS c] = w ++ " " ++ ctS c := by
  have := jn_two (a := [w]) (b := [ctS c]) (by simp) (by simp)
  rw [jn_one, jn_one] at this
  exact this
theorem jn_inner {b : List Ins} (h : b ≠ []) : jn ([("[" : Str)] ++ (tkP b ++ [("]" : Str)])) = ("[ " : Str) ++ txP b ++ (" ]" : Str) := by
  have hb : tkP b ≠ [] := by
    cases b with
    | nil => exact absurd rfl h
    | cons i r =>
      rw [tkP_cons]
      exact fun z => tkI_ne i (List.append_eq_nil_iff.mp z).1
  rw [jn_two (by simp) (by simp), jn_two hb (by simp), jn_one, jn_one]
  refine ext_tl ?_
  have e1 : tl ("[ " : Str) = tl ("[" : Str) ++ tl (" " : Str) := by decide +kernel
  have e2 : tl (" ]" : Str) = tl (" " : Str) ++ tl ("]" : Str) := by decide +kernel
  simp only [tl_append, e1, e2, List.append_assoc, txP]
theorem jn_empty : jn ([("[" : Str)] ++ (tkP [] ++ [("]" : Str)])) = ("[ ]" : Str) := by
  rw [tkP_nil]
  decide +kernel
/-! the data of a program that is lists all the way down -/
mutual
def ldI : Ins → PyData
  | .step c => .tuple [.str "step", .int c]
  | .turn c => .tuple [.str "turn", .int c]
  | .rep n b => .tuple [.str "repeat", .int n, .list (ldA b)]
def ldA : List Ins → List PyData
  | [] => []
  | i :: r => ldI i :: ldA r
end
section
variable {K : PySem.W.Frag} {H0 H H' : Hp}
mutual
theorem NwI.dp : ∀ {x : V} {i : Ins}, NwI K H0 H x i → Dp K H x (ldI i)
  | _, _, .step h => by
    rw [ldI]
    exact .tup h (.cons (.str _) (.cons (.int _) .nil))
  | _, _, .turn h => by
    rw [ldI]
    exact .tup h (.cons (.str _) (.cons (.int _) .nil))
  | _, _, .rep h _ e q => by
    rw [ldI]
    exact .tup h (.cons (.str _) (.cons (.int _) (.cons (.lst (SqL.of e) (NwP.dpA q)) .nil)))
theorem NwP.dpA : ∀ {xs : List V} {b : List Ins}, NwP K H0 H xs b → DpAll K H xs (ldA b)
  | _, _, .nil => by
    rw [ldA]
    exact .nil
  | _, _, .cons h t => by
    rw [ldA]
    exact .cons (NwI.dp h) (NwP.dpA t)
end
mutual
theorem isI_ld : ∀ i : Ins, IsI (ldI i) i
  | .step c => by rw [ldI]; exact .step c
  | .turn c => by rw [ldI]; exact .turn c
  | .rep n b => by rw [ldI]; exact .rep n (.lst (isA_ld b))
theorem isA_ld : ∀ b : List Ins, IsAll (ldA b) b
  | [] => by rw [ldA]; exact .nil
  | i :: r => by rw [ldA]; exact .cons (isI_ld i) (isA_ld r)
end
theorem NwP.dp {a : Addr} {xs : List V} {b : List Ins} (h : NwP K H0 H xs b) (e : H a = some (.lst xs)) : Dp K H (.ref a) (.list (ldA b)) := .lst (SqL.of e) h.dpA
end
theorem ld_fits {b : List Ins} (w : WP b) : Fits (150 * cnP b + 5) (2 * dpP b + 2) (.list (ldA b)) := isP_fits (.lst (isA_ld b)) w
/-- what repr says of a program that is lists all the way down -/
def rpS (b : List Ins) : Str := (PyData.list (ldA b)).shown
theorem pv_of {K : PySem.W.Frag} {H : Hp} {a : Addr} {xs : List V} {b : List Ins} (h : SqL K H a xs ∨ SqT K H a xs) (hI : IVs K H xs b) : PV K H (.ref a) b := h.elim (fun z => pv_list z hI) fun z => pv_tup z hI
/-! [f(part) for part in program], each part made anew or kept -/
theorem lcNw {K : PySem.W.Frag} {J : It} {G : Hp → Prop} {Y : Nat → Hp → V → Hp → Prop} {tv' : TI} {σ : L2.St} {H : Hp} {vs : List Nat} {i : Nat} {te : TE} {Q : VK} {xs : List V} {b : List Ins} (wk : Walk J xs.length G Y) (hy : ∀ m H1 v H2, Y m H1 v H2 → G H1 → H2 = H1 ∧ xs[m]? = some v)
    (hv : ∀ R : It → Hp → Prop, R J H → tv' σ H R) (hG : ∀ H', Same H H' → G H') (hI : IVs K H xs b) (hn : xs.length ≤ 100000)
    (hw : ∀ x, wipe ((wipe σ vs).set i (some x)) vs = wipe σ vs)
    (he : ∀ (x : V) (t : Ins) (H2 : Hp), t ∈ b → Same H H2 → IV K H2 x t → ∀ S : VK, (∀ y H3, Same H2 H3 → NwI K H2 H3 y t → S y H3) → te ((wipe σ vs).set i (some x)) H2 S)
    (k : ∀ D ys H2, H D = none → Same H H2 → H2 D = some (.lst ys) → NwP K H H2 ys b → Q (.ref D) H2) : tLc tv' (gName i) tYes te vs σ H Q := by
  refine hv _ ?_
  intro D nD
  refine lc_it wk (fun m H2 => ∃ ys, H2 D = some (.lst ys) ∧ NwP K (upd H D (.lst [])) H2 ys (b.take m) ∧ Same (upd H D (.lst [])) (upd H2 D (.lst [])) ∧ Same H H2) ⟨[], upd_same, by rw [List.take_zero]; exact .nil, fun c o z => ?_, same_new nD⟩ ?_ ?_ ?_
  · by_cases y : c = D
    · subst y
      rw [upd_same] at z ⊢
      exact z
    · rw [upd_ne y]
      exact z
  · rintro m H2 _ ⟨_, _, _, _, s2⟩
    exact hG _ s2
  · rintro m v H2 H3 hm ⟨ys, hD, hN, sD, s2⟩ hyld
    obtain ⟨rfl, hx⟩ := hy _ _ _ _ hyld (hG _ s2)
    obtain ⟨t, ht, hiv⟩ := hI.get hx
    refine ⟨hw _, ?_⟩
    dsimp only [tYes]
    rw [if_pos rfl]
    refine he v t H3 (List.mem_of_getElem? ht) s2 (hiv.same s2) _ fun y H4 s4 hy4 => ?_
    have hD4 := s4 _ _ hD
    have yl := hN.len
    rw [List.length_take] at yl
    refine ⟨ys, hD4, sl_lt (by omega), ys ++ [y], upd_same, ?_, fun c o z => ?_, same_mut (s2.trans s4) nD⟩
    · have t5 : Tp H4 (upd H4 D (.lst (ys ++ [y]))) := tp_lst hD4
      have keep : ∀ L xs, (upd H D (.lst [])) L = none → H4 L = some (.lst xs) → upd H4 D (.lst (ys ++ [y])) L = some (.lst xs) := fun L xs n z => by
        have nL : L ≠ D := fun y => by
          rw [y, upd_same] at n
          cases n
        rw [upd_ne nL]
        exact z
      rw [take_snoc ht]
      refine NwP.app ((hN.same s4).stay (fun _ _ g => tp_t t5 g) keep) (.cons ?_ .nil)
      refine (NwI.less (fun a n => ?_) hy4).stay (fun _ _ g => tp_t t5 g) keep
      have na : a ≠ D := fun z => by
        rw [z, hD] at n
        cases n
      rw [upd_ne na]
      exact s2.free n
    · have := sD c o z
      by_cases y : c = D
      · subst y
        rw [upd_same] at this ⊢
        exact this
      · rw [upd_ne y] at this
        rw [upd_ne y, upd_ne y]
        exact s4 _ _ this
  · rintro H2 ⟨ys, hD, hN, sD, s2⟩
    have e : xs.length = b.length := hI.len
    rw [e, List.take_length] at hN
    refine k D ys H2 nD s2 hD (NwP.less (fun a n => ?_) hN)
    have na : a ≠ D := fun z => by
      rw [z, upd_same] at n
      cases n
    rw [upd_ne na] at n
    exact n
/-- _law_reads: the text gives this program, twice -/
def sp__law_reads (K : PySem.W.Frag) : Sp := fun vs H Q _ => ∃ (t : Str) (b : List Ins) (s1 : RS), vs = [.str t, .str (rpS b)] ∧ t.length ≤ 100000 - 2 ∧ readT (tksOf t) = .ok b s1 ∧ WP b ∧ cnP b ≤ 1000 ∧ dpP b ≤ 2 ∧ ∀ H', Same H H' → Q (.bl true) H'
end DR
namespace DR
open PySem PySem.Spec PyProof.Rows L2
theorem lpd_shaped (f : Pol) : SeqAt.shaped (.list (f.map pr)) = true := by
  obtain ⟨a, b⟩ := prs_lay f
  show (PyData.canLayAll0 (f.map pr) && decide (PyData.depthAll (f.map pr) + 1 ≤ 64)) = true
  rw [a, decide_eq_true (by omega)]
  rfl
theorem eqv_lnil (f : Pol) : PyData.eqv (.list (f.map pr)) (.list []) = decide (f = []) := by
  cases f with
  | nil => rfl
  | cons t r => rfl
section
variable {K : PySem.W.Frag} {H : Hp}
theorem Prs.erase : ∀ {xs : List V} {f : Pol} (k : Nat), Prs K H xs f → Prs K H (xs.eraseIdx k) (f.eraseIdx k)
  | _, _, _, .nil => .nil
  | _, _, 0, .cons _ t => t
  | _, _, k + 1, .cons h t => .cons h (Prs.erase k t)
end
theorem perm_erase : ∀ {f : Pol} {k : Nat} {t : Int × Int}, f[k]? = some t → (t :: f.eraseIdx k).Perm f
  | [], _, _, h => by simp at h
  | a :: r, 0, t, h => by
    have e : a = t := by simpa using h
    rw [e]
    exact List.Perm.refl _
  | a :: r, k + 1, t, h => by
    have h' : r[k]? = some t := by simpa using h
    show (t :: a :: r.eraseIdx k).Perm (a :: r)
    exact (List.Perm.swap a t _).trans ((perm_erase h').cons a)
theorem perm_step {g h f : Pol} {k : Nat} {t : Int × Int} (e : h[k]? = some t) (p : (g ++ h).Perm f) : ((g ++ [t]) ++ h.eraseIdx k).Perm f := by
  rw [List.append_assoc]
  exact ((perm_erase e).append_left g).trans p
def sp__law_shuffled (K : PySem.W.Frag) : Sp := fun vs H Q _ => ∃ (p c : Addr) (n : Nat) (v : V) (f : Pol), vs = [.ref p, v] ∧ (TPol K H v f ∨ LPol K H v f) ∧ f.length ≤ 1000 ∧ PenAt H p c n ∧ n < 2 ^ 38 ∧
  ∀ D ys g H', Kp p H H' → PenAt H' p c (n + f.length) → H D = none → H' D = some (.lst ys) → Prs K H' ys g → g.Perm f → Q (.ref D) H'
/-- the law's drawn pairs: numbers below a bound -/
def PsB (f : Pol) : Prop := ∀ t ∈ f, t.1.natAbs ≤ 10 ^ 31 ∧ t.2.natAbs ≤ 10 ^ 31
def sp__law_pairs1 (K : PySem.W.Frag) : Sp := fun vs H Q _ => ∃ (p c : Addr) (q : Int) (n : Nat), vs = [.ref p, .int q] ∧ 2 ≤ q ∧ q ≤ 97 ∧ PenAt H p c n ∧ n < 2 ^ 37 ∧
  ∀ D ys g H', Kp p H H' → PenAt H' p c (n + 100) → H' D = some (.lst ys) → Prs K H' ys g → g.length ≤ 16 → PsB g → Q (.ref D) H'
theorem kl_dp {K : PySem.W.Frag} {H : Hp} : ∀ ks : List Int, DpAll K H (ks.map V.int) (ks.map PyData.int)
  | [] => .nil
  | k :: r => .cons (.int k) (kl_dp r)
theorem kl_lay : ∀ ks : List Int, PyData.canLayAll0 (ks.map PyData.int) = true ∧ PyData.depthAll (ks.map PyData.int) = 0
  | [] => ⟨rfl, rfl⟩
  | k :: r => by
    obtain ⟨a, b⟩ := kl_lay r
    refine ⟨?_, ?_⟩
    · show ((PyData.int k).canLay0 && PyData.canLayAll0 (r.map PyData.int)) = true
      rw [a]
      rfl
    · show max (PyData.int k).depth (PyData.depthAll (r.map PyData.int)) = 0
      rw [b]
      rfl
theorem kl_shaped (ks : List Int) : SeqAt.shaped (.list (ks.map PyData.int)) = true := by
  obtain ⟨a, b⟩ := kl_lay ks
  show (PyData.canLayAll0 (ks.map PyData.int) && decide (PyData.depthAll (ks.map PyData.int) + 1 ≤ 64)) = true
  rw [a, b]
  rfl
theorem kl_eqv (ks : List Int) : PyData.eqv (.list (ks.map PyData.int)) (.list []) = ks.isEmpty := by
  cases ks <;> rfl
end DR
namespace DR
open PySem PySem.Spec PyProof.Rows L2
/-! ### tuples of any data, cut and put together -/
theorem all_fits {n k : Nat} : ∀ (ds : List PyData), (∀ d ∈ ds, Fits n k d) → PyData.showableAll ds = true ∧ PyData.hasDictAll ds = false ∧ PyData.depthAll ds ≤ k ∧ ((ds.map PyData.shown).map (·.length)).sum ≤ n * ds.length
  | [], _ => ⟨rfl, rfl, Nat.zero_le _, Nat.zero_le _⟩
  | d :: r, h => by
    have a := h d List.mem_cons_self
    obtain ⟨b1, b2, b3, b4⟩ := all_fits r fun x hx => h x (List.mem_cons_of_mem _ hx)
    refine ⟨?_, ?_, ?_, ?_⟩
    · show (d.showable && PyData.showableAll r) = true
      rw [a.sh, b1]
      rfl
    · show (d.hasDict || PyData.hasDictAll r) = false
      rw [a.nd, b2]
      rfl
    · show max d.depth (PyData.depthAll r) ≤ k
      have := a.dp
      omega
    · rw [List.map_cons, List.map_cons, List.sum_cons, List.length_cons, Nat.mul_add, Nat.mul_one]
      have := a.ln
      omega
theorem shown_map : ∀ ds : List PyData, PyData.shownAll ds = ds.map PyData.shown
  | [] => rfl
  | d :: r => by
    show d.shown :: PyData.shownAll r = _
    rw [shown_map r]
    rfl
theorem fits_tupN {n k : Nat} {ds : List PyData} (h : ∀ d ∈ ds, Fits n k d) : Fits (n * ds.length + 2 * ds.length + 3) (k + 1) (.tuple ds) := by
  obtain ⟨a, b, c, e⟩ := all_fits ds h
  refine ⟨a, b, Nat.succ_le_succ c, ?_⟩
  show (tupleText (PyData.shownAll ds)).length ≤ _
  have t := tupleText_len_le (PyData.shownAll ds)
  rw [shown_map] at t ⊢
  rw [List.length_map] at t
  omega
section
variable {K : PySem.W.Frag} {H0 H H' : Hp} {v u : V} {n m : Nat} {Q : VK}
def TV (K : PySem.W.Frag) (H0 H : Hp) (v : V) (n : Nat) : Prop := ∃ (a : Addr) (xs : List V) (ds : List PyData), v = .ref a ∧ SqT K (er H0 H) a xs ∧ DpAll K (er H0 H) xs ds ∧ (∀ d ∈ ds, Nice 25000 3 d) ∧ ds.length ≤ n
theorem TV.same (s : Same H H') (h : TV K H0 H v n) : TV K H0 H' v n := by
  obtain ⟨a, xs, ds, e, h1, h2, h3⟩ := h
  exact ⟨a, xs, ds, e, same_t (er_same s) h1, DpAll.same (er_same s) h2, h3⟩
theorem TV.kpd {p c c' : Addr} {i j : Nat} (pen0 : PenAt H0 p c i) (pen : PenAt H p c' j) (k : Kp p H H') (h : TV K H0 H v n) : TV K H0 H' v n := by
  obtain ⟨a, xs, ds, e, h1, h2, h3⟩ := h
  obtain ⟨kvs, hp⟩ := pen.dict
  obtain ⟨kvs0, hp0⟩ := pen0.dict
  have hp' : er H0 H p = some (.dK kvs) := er_of hp fun xs e => by rw [hp0] at e; cases e
  exact ⟨a, xs, ds, e, tp_t (tp_kp hp' (er_kp k)) h1, DpAll.kpd hp' (er_kp k) h2, h3⟩
theorem TV.mono (h : TV K H0 H v n) (hm : n ≤ m) : TV K H0 H v m := by
  obtain ⟨a, xs, ds, e, h1, h2, h3, h4⟩ := h
  exact ⟨a, xs, ds, e, h1, h2, h3, Nat.le_trans h4 hm⟩
theorem TV.sq (h : TV K H0 H v n) : ∃ a xs, v = .ref a ∧ SqT K H a xs ∧ xs.length ≤ n := by
  obtain ⟨a, xs, ds, e, h1, h2, _, h4⟩ := h
  exact ⟨a, xs, e, same_t (er_sub H0 H) h1, by rw [DpAll.len h2]; exact h4⟩
theorem tv_new {xs : List V} {ds : List PyData} {b : Addr} (al : Al H0 H) (nb : H b = none) (h : DpAll K (er H0 H) xs ds) (hn : ∀ d ∈ ds, Nice 25000 3 d) (hl : ds.length ≤ n) : TV K H0 (upd H b (.tup xs)) (.ref b) n :=
  ⟨b, xs, ds, rfl, same_t (er_new al nb) (SqT.of upd_same), DpAll.same (er_same (same_new nb)) h, hn, hl⟩
theorem DpAll.takeN : ∀ {xs : List V} {ds : List PyData} (k : Nat), DpAll K H xs ds → DpAll K H (xs.take k) (ds.take k)
  | _, _, 0, _ => by rw [List.take_zero, List.take_zero]; exact .nil
  | _, _, _ + 1, .nil => .nil
  | _, _, k + 1, .cons h t => .cons h (DpAll.takeN k t)
theorem DpAll.dropN : ∀ {xs : List V} {ds : List PyData} (k : Nat), DpAll K H xs ds → DpAll K H (xs.drop k) (ds.drop k)
  | _, _, 0, h => h
  | _, _, _ + 1, .nil => .nil
  | _, _, k + 1, .cons _ t => DpAll.dropN k t
theorem tv_cut {lo hi : Option Int} (al : Al H0 H) (h : TV K H0 H v n) (k : ∀ u H', Same H H' → Al H0 H' → TV K H0 H' u n → Q u H') : rSlA K v lo hi H Q := by
  obtain ⟨a, xs, ds, rfl, h1, h2, h3, h4⟩ := h
  have hl := DpAll.len h2
  refine ⟨a, xs, rfl, same_t (er_sub H0 H) h1, fun _ => k _ _ (Same.refl H) al ⟨a, xs, ds, rfl, h1, h2, h3, h4⟩, fun _ p np => ?_⟩
  refine k _ _ (same_new np) (al.same (same_new np)) (tv_new (ds := (ds.drop (HT.sIx xs.length 0 lo)).take (HT.sIx xs.length xs.length hi - HT.sIx xs.length 0 lo)) al np (DpAll.takeN _ (DpAll.dropN _ h2)) (fun d hd => h3 d (List.mem_of_mem_drop (List.mem_of_mem_take hd))) ?_)
  rw [List.length_take, List.length_drop]
  omega
theorem tv_cat (al : Al H0 H) (h : TV K H0 H v n) (h' : TV K H0 H u m) (hnm : n + m ≤ 1000) (k : ∀ w H', Same H H' → Al H0 H' → TV K H0 H' w (n + m) → Q w H') : rCatA K v u H Q := by
  obtain ⟨a, xs, ds, rfl, h1, h2, h3, h4⟩ := h
  obtain ⟨b, ys, es, rfl, g1, g2, g3, g4⟩ := h'
  have hl := DpAll.len h2
  have gl := DpAll.len g2
  refine ⟨a, b, xs, ys, rfl, rfl, same_t (er_sub H0 H) h1, same_t (er_sub H0 H) g1, sl_of (by omega), fun _ => k _ _ (Same.refl H) al ⟨b, ys, es, rfl, g1, g2, g3, by omega⟩, fun _ _ => k _ _ (Same.refl H) al ⟨a, xs, ds, rfl, h1, h2, h3, by omega⟩, fun _ _ p np => ?_⟩
  refine k _ _ (same_new np) (al.same (same_new np)) (tv_new (ds := ds ++ es) al np (DpAll.append h2 g2) (fun d hd => ?_) (by rw [List.length_append]; omega))
  rcases List.mem_append.mp hd with z | z
  · exact h3 d z
  · exact g3 d z
theorem TV.good (h : TV K H0 H v n) (hn : n ≤ 35) : Good K (er H0 H) v := by
  obtain ⟨a, xs, ds, rfl, h1, h2, h3, h4⟩ := h
  refine ⟨.tuple ds, .inl (.tup h1 h2), (fits_tupN (n := 25000) (k := 3) fun d hd => (h3 d hd).f).shw ?_ (by decide) (show ds.length ≤ 1000000 by omega) fun es e x hx => ?_⟩
  · have : 25000 * ds.length ≤ 25000 * 35 := Nat.mul_le_mul_left _ (by omega)
    omega
  · cases PyData.tuple.inj e
    exact (h3 x hx).tl
theorem tv_pol {g : Pol} (hs : ∀ t ∈ g, t.1.natAbs < 10 ^ 100 ∧ t.2.natAbs < 10 ^ 100) (h : TPol K H v g) (hl : g.length ≤ n) : TV K H H v n := by
  obtain ⟨a, xs, rfl, h1, h2⟩ := h
  refine ⟨a, xs, g.map pr, rfl, tp_t (er_tp H) h1, (Prs.tp (er_tp H) h2).dp, fun d hd => ?_, by rw [List.length_map]; exact hl⟩
  obtain ⟨t, ht, rfl⟩ := List.mem_map.mp hd
  obtain ⟨b1, b2⟩ := hs t ht
  exact (nice_2 (nice_int b1) (nice_int b2)).up (by decide) (by decide)
end
def sp__law_changed1 (K : PySem.W.Frag) : Sp := fun vs H Q _ => ∃ (p c : Addr) (q : Int) (e : V) (g : Pol) (n : Nat), vs = [.ref p, .int q, e] ∧ 2 ≤ q ∧ q ≤ 97 ∧ TPol K H e g ∧ 0 < g.length ∧ g.length ≤ 16 ∧ (∀ t ∈ g, t.1.natAbs < 10 ^ 90 ∧ t.2.natAbs < 10 ^ 90) ∧ PenAt H p c n ∧ n < 2 ^ 38 ∧ ∀ v H', Kp p H H' → PenAt H' p c (n + 4) → Good K (er H H') v → Q v H'
def FN (n k : Nat) (K : PySem.W.Frag) (H : Hp) (v : V) : Prop := ∃ d, Dp K H v d ∧ Nice n k d
section
variable {K : PySem.W.Frag} {H0 H H' : Hp} {v w x : V} {n k : Nat} {b : Addr}
theorem FN.same (e : Same H H') (h : FN n k K H v) : FN n k K H' v := h.elim fun d z => ⟨d, Dp.same e z.1, z.2⟩
theorem FN.kpd {p c c' : Addr} {i j : Nat} (pen0 : PenAt H0 p c i) (pen : PenAt H p c' j) (kp : Kp p H H') (h : FN n k K (er H0 H) v) : FN n k K (er H0 H') v := h.elim fun d z => by
  obtain ⟨kvs, hp⟩ := pen.dict
  obtain ⟨kvs0, hp0⟩ := pen0.dict
  exact ⟨d, Dp.kpd (er_of hp fun xs e => by rw [hp0] at e; cases e) (er_kp kp) z.1, z.2⟩
theorem FN.up {n' k' : Nat} (h : FN n k K H v) (a : n ≤ n') (c : k ≤ k') : FN n' k' K H v := h.elim fun d z => ⟨d, z.1, z.2.up a c⟩
theorem fn_int {i : Int} (h : i.natAbs < 10 ^ 100) : FN 101 0 K H (.int i) := ⟨_, .int i, nice_int h⟩
theorem fn_t1 (al : Al H0 H) (nb : H b = none) (h : FN n k K (er H0 H) v) : FN (n + 5) (k + 1) K (er H0 (upd H b (.tup [v]))) (.ref b) := h.elim fun d z => ⟨_, Dp.same (er_new al nb) (dn_tup (er_none nb) _ _ (.cons (Dp.same (same_new (er_none nb)) z.1) .nil)), nice_1 z.2⟩
theorem fn_t2 {n' k' : Nat} (al : Al H0 H) (nb : H b = none) (h : FN n k K (er H0 H) v) (h' : FN n' k' K (er H0 H) w) : FN (n + n' + 7) (max k k' + 1) K (er H0 (upd H b (.tup [v, w]))) (.ref b) := h.elim fun d z => h'.elim fun d' z' => ⟨_, Dp.same (er_new al nb) (dn_tup (er_none nb) _ _ (.cons (Dp.same (same_new (er_none nb)) z.1) (.cons (Dp.same (same_new (er_none nb)) z'.1) .nil))), nice_2 z.2 z'.2⟩
theorem fn_l2 {n' k' : Nat} (al : Al H0 H) (nb : H b = none) (h : FN n k K (er H0 H) v) (h' : FN n' k' K (er H0 H) w) : FN (n + n' + 7) (max k k' + 1) K (er H0 (upd H b (.lst [v, w]))) (.ref b) := h.elim fun d z => h'.elim fun d' z' => ⟨_, Dp.same (er_new al nb) (dn_lst (er_none nb) _ _ (.cons (Dp.same (same_new (er_none nb)) z.1) (.cons (Dp.same (same_new (er_none nb)) z'.1) .nil))), nice_l2 z.2 z'.2⟩
theorem fn_t3 {n' k' n2 k2 : Nat} (al : Al H0 H) (nb : H b = none) (h : FN n k K (er H0 H) v) (h' : FN n' k' K (er H0 H) w) (h2 : FN n2 k2 K (er H0 H) x) : FN (n + n' + n2 + 9) (max k (max k' k2) + 1) K (er H0 (upd H b (.tup [v, w, x]))) (.ref b) := h.elim fun d z => h'.elim fun d' z' => h2.elim fun d2 z2 => ⟨_, Dp.same (er_new al nb) (dn_tup (er_none nb) _ _ (.cons (Dp.same (same_new (er_none nb)) z.1) (.cons (Dp.same (same_new (er_none nb)) z'.1) (.cons (Dp.same (same_new (er_none nb)) z2.1) .nil)))), nice_3 z.2 z'.2 z2.2⟩
theorem tv_one (al : Al H0 H) (nb : H b = none) (h : FN 25000 3 K (er H0 H) v) : TV K H0 (upd H b (.tup [v])) (.ref b) 1 := h.elim fun d z => tv_new al nb (.cons z.1 .nil) (fun d' hd => by rw [List.mem_singleton.mp hd]; exact z.2) (Nat.le_refl _)
theorem fits_listN {m j : Nat} {ds : List PyData} (h : ∀ d ∈ ds, Fits m j d) : Fits (m * ds.length + 2 * ds.length + 3) (j + 1) (.list ds) := by
  obtain ⟨a, b, c, e⟩ := all_fits ds h
  refine ⟨a, b, Nat.succ_le_succ c, ?_⟩
  show (listText (PyData.shownAll ds)).length ≤ _
  have t := listText_len_le (PyData.shownAll ds)
  rw [shown_map] at t ⊢
  rw [List.length_map] at t
  omega
theorem tv_list (al : Al H0 H) (h : TV K H0 H v n) (hn : n ≤ 35) : ∃ a xs, v = .ref a ∧ SqT K H a xs ∧ ∀ l, H l = none → Good K (er H0 (upd H l (.lst xs))) (.ref l) := by
  obtain ⟨a, xs, ds, rfl, h1, h2, h3, h4⟩ := h
  refine ⟨a, xs, rfl, same_t (er_sub H0 H) h1, fun l nl => ⟨.list ds, .inl (Dp.same (er_new al nl) (dn_lst (er_none nl) _ _ (DpAll.same (same_new (er_none nl)) h2))), (fits_listN (m := 25000) (j := 3) fun d hd => (h3 d hd).f).shw ?_ (by decide) (Nat.zero_le _) fun es e => by cases e⟩⟩
  have : 25000 * ds.length ≤ 25000 * 35 := Nat.mul_le_mul_left _ (by omega)
  omega
theorem tv_rev (al : Al H0 H) (h : TV K H0 H v n) : ∃ a xs, v = .ref a ∧ SqT K H a xs ∧ ∀ b, H b = none → TV K H0 (upd H b (.tup xs.reverse)) (.ref b) n := by
  obtain ⟨a, xs, ds, rfl, h1, h2, h3, h4⟩ := h
  exact ⟨a, xs, rfl, same_t (er_sub H0 H) h1, fun b nb => tv_new (ds := ds.reverse) al nb (DpAll.rev h2) (fun d hd => h3 d (List.mem_reverse.mp hd)) (by rw [List.length_reverse]; exact h4)⟩
end
end DR
namespace DR
open PySem PySem.Spec PyProof.Rows L2
/-! ### defs that show things: they are called where no repr runs -/
/-- a promise that is kept wherever no repr runs -/
structure OkG (P : Program) (w : World) (K : PySem.W.Frag) (mg : Str → Option Value) (base : Heap) (k : Nat) (f : Addr) (fd : FuncData) (ps : List Str) (sp : Sp) : Prop where
  len : ∀ vs H Q E, sp vs H Q E → vs.length = ps.length
  run : ∀ (A : Around) (outer : List Env) (s : Shared) (H : Hp) (args : Args) (us : List Value) (vs : List V) (Q : VK) (E : XK), A.guards = some [] → Room k A → Env0 P w K mg base A outer s H →
    BindsTo s fd args (ps.zip us) → Vals vs us → sp vs H Q E → codeAny (model P w) A (.call (.ref f) args) (CR CX0 outer P w H s Q E) s
theorem okG_of {P : Program} {w : World} {K : PySem.W.Frag} {mg : Str → Option Value} {base : Heap} {x qual : Str} {st : Stmt} {f : Addr} {fd : FuncData} {N ps : List Str} {k : Nat} {sp : Sp} (F : Fun K x qual st f fd) (S : FnScope N ps (defScope st))
    (len : ∀ vs H Q E, sp vs H Q E → vs.length = ps.length)
    (body : ∀ (cdv : Value) (A : Around) (outer : List Env) (s : Shared) (H : Hp) (vs : List V) (Q : VK) (E : XK), (A.deeper (envOfC qual (defScope st) s.heap.objs.size f cdv)).guards = some [] → Room k (A.deeper (envOfC qual (defScope st) s.heap.objs.size f cdv)) → sp vs H Q E →
      ∃ t, PSs (cxOf CX0 P w K mg base N qual (defScope st) f cdv A outer s H E).nox (defBody st) t ∧ t { nx := fun _ H' => Q .non H', rt := Q } (start N vs) H) : OkG P w K mg base (k + 1) f fd ps sp := by
  refine ⟨len, fun A outer s H args us vs Q E calm room env bind rel want => ?_⟩
  rcases F.ex with ⟨c1, c2, c3, c4, c5, c6, code, c7, c8, efd, look, hcode⟩
  subst efd
  have there : ∀ b o, base.get? b = some o → s.heap.get? b = some o := fun b o e => (env.bs b o e).1
  have inK := env.mod.kin.keeps there
  have free := env.mod.nolimit.keeps there
  have names : ∀ y ∈ ps.zip us, (defScope st).names.lookup y.1 = some .local ∨ ((defScope st).names.lookup y.1 = some .cell ∧ ((cellsFrom (s.heap.objs.size + 1) (defScope st).names []).lookup y.1).isSome = true) := fun y hy =>
    (S.par y.1 (List.of_mem_zip hy).1).imp id fun c => ⟨c, PySem.W.cellsFrom_some _ _ _ (.inl c)⟩
  apply codeAny_call_function room.depth (inK _ _ look) rfl S.co S.gen rfl (PySem.W.codeRec_of inK hcode)
  apply bind
  apply wpAny_newFunctionEnv_cells S.kind names
  rintro _ rfl s1 new
  refine ⟨free.keeps new.toInCall.keep, codeAny_func ?_⟩
  obtain ⟨t, term, reading⟩ := body code A outer s H vs Q E calm (room.deeper _) want
  have start' := inv_start (CX := CX0) (E := E) S room.hd env (len _ _ _ _ want) rel new
  apply wpAny_mono (term.nox.run [] s1 (start N vs) H _ start' reading)
  · rintro (_ | u | _ | _) s2 got
    · obtain ⟨_, H', J, q⟩ := got
      exact ⟨.non, H', J.os, J.bare, J.base, J.hok, rfl, q⟩
    all_goals first
      | exact (let ⟨v, _, H', J, rv, q⟩ := got; ⟨v, H', J.os, J.bare, J.base, J.hok, rv, q⟩)
      | exact got.elim fun _ z => z.elim fun _ y => y.2.elim
  · exact fun _ _ h => h
structure CalG (P : Program) (w : World) (K : PySem.W.Frag) (mg : Str → Option Value) (base : Heap) (k : Nat) (x : Str) (sp : Sp) : Prop where
  ex : ∃ (f : Addr) (fd : FuncData) (ps : List Str), OkG P w K mg base k f fd ps sp ∧ mg x = some (.ref f) ∧ PySem.W.keepIn K (.ref f) = true ∧ Binds K fd ps []
theorem cal_ofG {P : Program} {w : World} {K : PySem.W.Frag} {mg : Str → Option Value} {base : Heap} {k : Nat} {x : Str} {st : Stmt} {ps : List Str} {sp : Sp} (D : Df K mg x st)
    (b : ∀ (kV doc pm : Value) (an : Option Addr) (cdv ct : Value) (us : List Value), us.length = ps.length → bindArgs (PySem.W.fnOf x x (defArgs st) (defBody st) (defScope st) .none kV doc pm an cdv ct) ⟨us, []⟩ = pure (ps.zip us))
    (ok : ∀ f fd, Fun K x x st f fd → OkG P w K mg base k f fd ps sp) : CalG P w K mg base k x sp :=
  D.ex.elim fun f z => z.elim fun fd y => ⟨f, fd, ps, ok f fd y.1, y.2.1, y.2.2, y.1.binds b⟩
/-- its call, where no repr runs -/
theorem pe_cG {X : Cx} {k j : Nat} {x : Str} {sp : Sp} {p pos : Pos} {e : Expr} {es : List Expr} {t : TA} (c : CalG X.prog X.w X.K X.mg X.base k x sp) (calm : X.A.guards = some []) (hr : Room j X.A) (hk : k ≤ j) (hg : Gl X x) (ha : PA X (e :: es) t)
    (h1 : (x == ("__debug__" : Str)) = false := by decide) (h2 : starEach (e :: es) X.env = (false, eval e X.env) :: starEach es X.env := by rfl) (h3 : (backTo pos (starEach es X.env)).any (·.1) = false := by rfl) :
    PE X (.Call (.Name x p) (e :: es) [] pos) (tCall sp [] E0 t) := by
  obtain ⟨f, fd, ps, F, hm, kp, b⟩ := c.ex
  constructor
  intro pins s σ H Q I want
  have args := ha.run pos pins s σ H _ I want
  apply wpAny_Call_Name_kw
  apply ld_glob I hg hm _ h1
  refine PySem.W.callWith_K (h₀ := X.base) I.ok.mod.kin kp (thn args ?_) h2 h3
  rintro us s1 ⟨vs, H1, J, rel, goal⟩
  rw [List.append_nil] at goal
  have many : us.length = ps.length := rel.length ▸ F.len _ _ _ _ goal
  have bind := b s1 us J.kIn (by rw [List.append_nil]; exact many)
  rw [List.append_nil] at bind
  refine ⟨J.kIn, wpAny_call (codeAny_mono (F.run X.A X.stack s1 H1 ⟨us, []⟩ us vs Q E0 calm (hr.mono hk) J.env0 bind rel goal) ?_)⟩
  rintro (err | (_ | u | _ | _)) s2 got
  all_goals first
    | exact J.after got
    | exact False.elim got
end DR
/-! ### texts: their signs, text * int, repr of texts -/
namespace L2
open PySem PySem.Spec PyProof.Rows PySem.P
theorem op_mul_txt {X : Cx} : OpR X (binaryOp .Mult) (fun x y H Q => ∃ (z : Str) (k : Int), x = .str z ∧ y = .int k ∧ MulOk z k ∧ Q (.str (Txt.mul z k)) H) := by
  intro pins s σ H x y v u Q I rx ry h
  obtain ⟨z, k, rfl, rfl, ok, q⟩ := h
  obtain ⟨t, rfl⟩ := rx
  obtain ⟨t2, rfl⟩ := ry
  exact SB.mul ok fun t' j => ⟨.str _, H, I.tok _, ⟨_, rfl⟩, q⟩
end L2
namespace DR
open PySem PySem.Spec PyProof.Rows L2 TL
/-- signs below 128 -/
def Low (t : Str) : Prop := ∀ c ∈ tl t, c < 128
instance (t : Str) : Decidable (Low t) := by unfold Low; exact inferInstance
theorem low_joinL : ∀ {ps : List (List Nat)}, (∀ p ∈ ps, ∀ c ∈ p, c < 128) → ∀ c ∈ joinL [32] ps, c < 128
  | [], _, c, h => absurd h List.not_mem_nil
  | [p], hp, c, h => hp p List.mem_cons_self c h
  | p :: q :: r, hp, c, h => by
    rw [joinL_cons (by simp)] at h
    rcases List.mem_append.mp h with h | h
    · exact hp p List.mem_cons_self c h
    · rcases List.mem_append.mp h with h | h
      · rw [List.mem_singleton.mp h]
        decide
      · exact low_joinL (fun x hx => hp x (List.mem_cons_of_mem _ hx)) c h
theorem low_jn {ts : List Str} (h : ∀ t ∈ ts, Low t) : Low (jn ts) := fun c hc => by
  rw [tl_jn] at hc
  refine low_joinL (fun p hp => ?_) c hc
  obtain ⟨t, ht, rfl⟩ := List.mem_map.mp hp
  exact h t ht
theorem low_ct (c : Int) : Low (ctS c) := by
  intro x hx
  by_cases hc : 0 ≤ c
  · obtain ⟨n, rfl⟩ := Int.eq_ofNat_of_zero_le hc
    rw [ct_pos] at hx
    have := numL_digits n x hx
    omega
  · obtain ⟨n, hn0, rfl⟩ : ∃ n : Nat, 0 < n ∧ c = -(n : Int) := ⟨c.natAbs, by omega, by omega⟩
    rw [ct_neg hn0] at hx
    rcases List.mem_cons.mp hx with rfl | hx
    · decide
    · have := numL_digits n x hx
      omega
theorem low_words : Low "step" ∧ Low "turn" ∧ Low "repeat" ∧ Low "[" ∧ Low "]" := by decide +kernel
mutual
theorem low_tkI : ∀ {i : Ins} {t : Str}, t ∈ tkI i → Low t
  | .step c, t, h => by
    unfold tkI at h
    rcases List.mem_cons.mp h with rfl | h
    · exact low_words.1
    · rw [List.mem_singleton.mp h]
      exact low_ct c
  | .turn c, t, h => by
    unfold tkI at h
    rcases List.mem_cons.mp h with rfl | h
    · exact low_words.2.1
    · rw [List.mem_singleton.mp h]
      exact low_ct c
  | .rep n b, t, h => by
    rw [tkI] at h
    rcases List.mem_append.mp h with h | h
    · rcases List.mem_cons.mp h with rfl | h
      · exact low_words.2.2.1
      rcases List.mem_cons.mp h with rfl | h
      · exact low_ct n
      rw [List.mem_singleton.mp h]
      exact low_words.2.2.2.1
    · rcases List.mem_append.mp h with h | h
      · exact low_tkP h
      · rw [List.mem_singleton.mp h]
        exact low_words.2.2.2.2
theorem low_tkP : ∀ {b : List Ins} {t : Str}, t ∈ tkP b → Low t
  | [], t, h => by
    rw [tkP_nil] at h
    exact absurd h List.not_mem_nil
  | i :: r, t, h => by
    rw [tkP_cons] at h
    rcases List.mem_append.mp h with h | h
    · exact low_tkI h
    · exact low_tkP h
end
theorem low_tx (b : List Ins) : Low (txP b) := low_jn fun t h => low_tkP h
theorem fits_txt {t : Str} {n : Nat} (h : Low t) (hn : t.length ≤ n) : Fits (10 * n + 2) 0 (.str t) := by
  refine ⟨rfl, rfl, Nat.le_refl _, ?_⟩
  have : (PyData.str t).shown = reprText t := rfl
  rw [this]
  refine Nat.le_trans (PySem.StrLaws.reprText_len t fun c hc => ?_) (by omega)
  exact Nat.lt_trans (h c hc) (by decide)
/-- a program that is lists all the way down -/
def AllL (K : PySem.W.Frag) (H : Hp) (v : V) (b : List Ins) : Prop := ∃ a xs, v = .ref a ∧ H a = some (.lst xs) ∧ NwP K (fun _ => none) H xs b
theorem AllL.same {K : PySem.W.Frag} {H H' : Hp} {v : V} {b : List Ins} (s : Same H H') (h : AllL K H v b) : AllL K H' v b := by
  obtain ⟨a, xs, rfl, h1, h2⟩ := h
  exact ⟨a, xs, rfl, s _ _ h1, h2.same s⟩
theorem AllL.pv {K : PySem.W.Frag} {H : Hp} {v : V} {b : List Ins} (h : AllL K H v b) : PV K H v b := by
  obtain ⟨a, xs, rfl, h1, h2⟩ := h
  exact pv_list (SqL.of h1) h2.ivs
theorem AllL.dp {K : PySem.W.Frag} {H : Hp} {v : V} {b : List Ins} (h : AllL K H v b) : Dp K H v (.list (ldA b)) := by
  obtain ⟨a, xs, rfl, h1, h2⟩ := h
  exact h2.dp h1
theorem nwP_repl {K : PySem.W.Frag} {H0 H : Hp} {x : V} {i : Ins} (h : NwI K H0 H x i) : ∀ n : Nat, NwP K H0 H (List.replicate n [x]).flatten (List.replicate n i)
  | 0 => .nil
  | n + 1 => by
    rw [List.replicate_succ, List.replicate_succ, List.flatten_cons]
    exact .cons h (nwP_repl h n)
end DR
/-! ### pieces of texts; a token that is taken for a count -/
namespace DR
open PySem PySem.Spec PyProof.Rows L2 TL
theorem sIx_nat (n d k : Nat) : HT.sIx n d (some (k : Int)) = min k n := by
  unfold HT.sIx
  dsimp only
  rw [if_neg (by omega)]
  rfl
theorem sIx_none (n d : Nat) : HT.sIx n d none = d := rfl
theorem tl_cut_to (t : Str) (k : Nat) : tl (cutS t none (some (k : Int))) = (tl t).take k := by
  show List.take (HT.sIx t.length t.length (some (k : Int)) - HT.sIx t.length 0 none) (List.drop (HT.sIx t.length 0 none) (tl t)) = _
  rw [sIx_nat, sIx_none, List.drop_zero, Nat.sub_zero, len_tl, ← List.take_eq_take_min]
theorem tl_cut_from (t : Str) (k : Nat) : tl (cutS t (some (k : Int)) none) = (tl t).drop k := by
  show List.take (HT.sIx t.length t.length none - HT.sIx t.length 0 (some (k : Int))) (List.drop (HT.sIx t.length 0 (some (k : Int))) (tl t)) = _
  rw [sIx_nat, sIx_none, len_tl]
  by_cases h : k ≤ (tl t).length
  · rw [Nat.min_eq_left h, List.take_of_length_le (by rw [List.length_drop]; exact Nat.le_refl _)]
  · rw [Nat.min_eq_right (by omega), List.drop_length, List.drop_eq_nil_of_le (by omega), List.take_nil]
/-- the first sign is the minus sign -/
theorem cut_minus (t : Str) : cutS t none (some 1) = ("-" : Str) ↔ isNeg (tl t) = true := by
  have e := tl_cut_to t 1
  constructor
  · intro z
    have z2 := congrArg tl z
    rw [show ((1 : Int)) = ((1 : Nat) : Int) from rfl, e, tl_minus] at z2
    cases h : tl t with
    | nil => rw [h] at z2; cases z2
    | cons c r =>
      rw [h] at z2
      cases z2
      rfl
  · intro z
    refine ext_tl ?_
    rw [show ((1 : Int)) = ((1 : Nat) : Int) from rfl, e, tl_minus]
    unfold isNeg at z
    split at z
    · next r h => rw [h]; rfl
    · cases z
theorem cut_less {t : Str} (h : isNeg (tl t) = true) : tl (cutS t (some 1) none) = dgL (tl t) := by
  rw [show ((1 : Int)) = ((1 : Nat) : Int) from rfl, tl_cut_from]
  unfold isNeg at h
  split at h
  · next r e => rw [e]; rfl
  · cases h
theorem dg_pos {t : List Nat} (h : ¬ isNeg t = true) : dgL t = t := by
  cases t with
  | nil => rfl
  | cons c r =>
    by_cases hc : c = 45
    · subst hc
      exact absurd rfl h
    · unfold dgL
      split
      · next z => cases z; exact absurd rfl hc
      · rfl
theorem dg_short (t : List Nat) : (dgL t).length ≤ t.length := by
  unfold dgL
  split
  · simp
  · exact Nat.le_refl _
/-! [sign for sign in text if p(sign)] -/
theorem lcSignF {tv : TE} {σ : L2.St} {H : Hp} {vs : List Nat} {i : Nat} {tt : TT} {te : TE} {Q : VK} {z : Str} (g : Nat → Bool) (hz : z.length ≤ 100000) (hv : ∀ R : VK, R (.str z) H → tv σ H R)
    (hw : ∀ x, wipe ((wipe σ vs).set i (some x)) vs = wipe σ vs)
    (ht : ∀ (c : Nat) (H2 : Hp) (R : Bool → Hp → Prop), R (g c) H2 → tt ((wipe σ vs).set i (some (.str ⟨#[c]⟩))) H2 R)
    (he : ∀ (c : Nat) (H2 : Hp) (R : VK), R (.str ⟨#[c]⟩) H2 → te ((wipe σ vs).set i (some (.str ⟨#[c]⟩))) H2 R)
    (k : ∀ D H2, Same H H2 → H D = none → H2 D = some (.lst ((z.cps.toList.filter g).map fun c => V.str ⟨#[c]⟩)) → Q (.ref D) H2) : tLc (iStr tv) (gName i) tt te vs σ H Q := by
  refine hv _ ⟨z, rfl, ?_⟩
  intro D nD
  have len : z.cps.toList.length = z.length := Array.length_toList
  refine lc_it (walk_str (z := z)) (fun m H2 => H2 D = some (.lst (((z.cps.toList.take m).filter g).map fun c => V.str ⟨#[c]⟩)) ∧ Same H H2) ⟨upd_same, same_new nD⟩ (fun _ _ _ _ => trivial) ?_ ?_
  · rintro m v H2 H3 hm ⟨hD, s2⟩ ⟨rfl, c, hc, rfl⟩
    refine ⟨hw _, ?_⟩
    have hcl : z.cps.toList[m]? = some c := by rw [Array.getElem?_toList]; exact hc
    refine ht c H3 _ ?_
    by_cases gc : g c = true
    · rw [if_pos gc]
      refine he c H3 _ ?_
      refine ⟨_, hD, ?_, ?_⟩
      · rw [List.length_map]
        have := List.length_filter_le g (z.cps.toList.take m)
        rw [List.length_take] at this
        exact sl_lt (by omega)
      · refine ⟨?_, same_mut s2 nD⟩
        rw [upd_same, take_snoc hcl, List.filter_append, List.map_append]
        simp [gc]
    · rw [if_neg gc]
      refine ⟨?_, s2⟩
      rw [hD, take_snoc hcl, List.filter_append]
      simp [gc]
  · rintro H2 ⟨hD, s2⟩
    rw [show z.cps.size = z.cps.toList.length from Array.length_toList.symm, List.take_length] at hD
    exact k D H2 s2 nD hD
/-- a list of texts is data -/
theorem dp_strs {K : PySem.W.Frag} {H : Hp} {D : Addr} {ts : List Str} (h : H D = some (.lst (ts.map V.str))) : Dp K H (.ref D) (.list (ts.map PyData.str)) := by
  refine .lst (SqL.of h) ?_
  clear h
  induction ts with
  | nil => exact .nil
  | cons t r ih => exact .cons (.str t) ih
theorem lay_strs : ∀ {ts : List Str}, (∀ t ∈ ts, PyData.canLay0 (.str t) = true) → PyData.canLayAll0 (ts.map PyData.str) = true ∧ PyData.depthAll (ts.map PyData.str) = 0
  | [], _ => ⟨rfl, rfl⟩
  | t :: r, h => by
    obtain ⟨a, b⟩ := lay_strs fun x hx => h x (List.mem_cons_of_mem _ hx)
    refine ⟨?_, ?_⟩
    · show (PyData.canLay0 (.str t) && PyData.canLayAll0 (r.map PyData.str)) = true
      rw [a, h t List.mem_cons_self]
      rfl
    · show max 0 (PyData.depthAll (r.map PyData.str)) = 0
      rw [b]
      rfl
theorem shaped_strs {ts : List Str} (h : ∀ t ∈ ts, PyData.canLay0 (.str t) = true) : SeqAt.shaped (.list (ts.map PyData.str)) = true := by
  obtain ⟨a, b⟩ := lay_strs h
  show (PyData.canLayAll0 (ts.map PyData.str) && decide (PyData.depthAll (ts.map PyData.str) + 1 ≤ 64)) = true
  rw [a, b]
  rfl
theorem lay_sign {c : Nat} (h : c < 128) : PyData.canLay0 (.str ⟨#[c]⟩) = true := by
  rw [PyData.canLay0.eq_4, PyData.strOk.eq_1]
  simp
  omega
theorem eqv_nil_strs (ts : List Str) : (PyData.list (ts.map PyData.str)).eqv (.list []) = decide (ts = []) := by
  cases ts with
  | nil => rfl
  | cons t r => rfl
theorem all_digitsF (l : List Nat) : (l.filter (fun c => !decide (c ∈ ("0123456789" : Str).cps.toList))) = [] ↔ NumText.AllDigits l := by
  rw [List.filter_eq_nil_iff]
  constructor
  · intro h c hc
    have := h c hc
    rw [in_digits] at this
    simpa using this
  · intro h c hc
    rw [in_digits]
    simpa using h c hc
theorem iteNY {c A B : Prop} [Decidable c] (hc : c) (h : B) : if (!decide c) = true then A else B := by
  rw [decide_eq_true hc]
  exact h
theorem atI_head {α : Type} (c : α) (r : List α) : atI (c :: r) 0 = some c := by
  unfold atI ixN
  simp
/-! the law's own reader -/
/-- a token is a count from m on -/
def ctB (t : Str) (m : Int) : Bool := match ctOf t with
  | some c => decide (m ≤ c)
  | none => false
theorem ctB_at {t : Str} {m : Int} (h : ctB t m = true) : ∃ c, ctOf t = some c ∧ m ≤ c := by
  unfold ctB at h
  split at h
  · next c e => exact ⟨c, e, of_decide_eq_true h⟩
  · cases h
theorem ctB_no {t : Str} {m c : Int} (h : ¬ ctB t m = true) (e : ctOf t = some c) : c < m := by
  unfold ctB at h
  rw [e] at h
  have : ¬ m ≤ c := fun z => h (decide_eq_true z)
  omega
def sp__law_is_count : Sp := fun vs H Q _ => ∃ (t : Str) (m : Int), vs = [.str t, .int m] ∧ t.length ≤ 100000 ∧ Low t ∧ -(10 ^ 30) ≤ m ∧ ∀ H', Same H H' → Q (.bl (ctB t m)) H'
end DR
/-! ### the law's own reader, token by token: its lists -/
namespace DR
open PySem PySem.Spec PyProof.Rows L2 TL
/-- these lists are still written to: no finished part holds them -/
def Opn (l : List Addr) : Hp := fun L => if L ∈ l then some (.lst []) else none
theorem opn_not {l : List Addr} {L : Addr} (h : Opn l L = none) : L ∉ l := fun z => by
  unfold Opn at h
  rw [if_pos z] at h
  cases h
theorem opn_free {l : List Addr} {L : Addr} (h : L ∉ l) : Opn l L = none := if_neg h
section
variable {K : PySem.W.Frag} {H H' : Hp} {l l' : List Addr} {D : Addr}
mutual
theorem NwI.more (nD : H D = none) : ∀ {x : V} {i : Ins}, NwI K (Opn l) H x i → NwI K (Opn (D :: l)) H x i
  | _, _, .step h => .step h
  | _, _, .turn h => .turn h
  | _, _, .rep h n e q => .rep h (opn_free fun z => by
      rcases List.mem_cons.mp z with rfl | z
      · rw [nD] at e
        cases e
      · exact opn_not n z) e (NwP.more nD q)
theorem NwP.more (nD : H D = none) : ∀ {xs : List V} {b : List Ins}, NwP K (Opn l) H xs b → NwP K (Opn (D :: l)) H xs b
  | _, _, .nil => .nil
  | _, _, .cons h t => .cons (NwI.more nD h) (NwP.more nD t)
end
theorem NwP.sub (hs : ∀ a ∈ l', a ∈ l) {xs : List V} {b : List Ins} (h : NwP K (Opn l) H xs b) : NwP K (Opn l') H xs b := NwP.less (fun a n => opn_free fun z => opn_not n (hs a z)) h
theorem NwP.put {a : Addr} {ys zs xs : List V} {b : List Ins} (hl : a ∈ l) (ha : H a = some (.lst ys)) (h : NwP K (Opn l) H xs b) : NwP K (Opn l) (upd H a (.lst zs)) xs b :=
  h.stay (fun _ _ g => tp_t (tp_lst ha) g) fun L xs n e => by
    have : L ≠ a := fun z => opn_not n (z ▸ hl)
    rw [upd_ne this]
    exact e
/-- the bodies that are still open, the innermost first -/
inductive Bds (K : PySem.W.Frag) (G H : Hp) : List Addr → List (List Ins) → Prop
  | nil : Bds K G H [] []
  | cons {a : Addr} {r : List Addr} {xs : List V} {b : List Ins} {bs : List (List Ins)} : H a = some (.lst xs) → NwP K G H xs b → Bds K G H r bs → Bds K G H (a :: r) (b :: bs)
theorem Bds.same {G : Hp} (e : Same H H') : ∀ {r : List Addr} {bs : List (List Ins)}, Bds K G H r bs → Bds K G H' r bs
  | _, _, .nil => .nil
  | _, _, .cons h q t => .cons (e _ _ h) (q.same e) (Bds.same e t)
theorem Bds.more (nD : H D = none) : ∀ {r : List Addr} {bs : List (List Ins)}, Bds K (Opn l) H r bs → Bds K (Opn (D :: l)) H r bs
  | _, _, .nil => .nil
  | _, _, .cons h q t => .cons h (q.more nD) (Bds.more nD t)
theorem Bds.sub (hs : ∀ a ∈ l', a ∈ l) : ∀ {r : List Addr} {bs : List (List Ins)}, Bds K (Opn l) H r bs → Bds K (Opn l') H r bs
  | _, _, .nil => .nil
  | _, _, .cons h q t => .cons h (q.sub hs) (Bds.sub hs t)
theorem Bds.put {a : Addr} {ys zs : List V} (hl : a ∈ l) (ha : H a = some (.lst ys)) : ∀ {r : List Addr} {bs : List (List Ins)}, a ∉ r → Bds K (Opn l) H r bs → Bds K (Opn l) (upd H a (.lst zs)) r bs
  | [], _, _, .nil => .nil
  | c :: _, _, n, .cons h q t => .cons (by
      have : c ≠ a := fun z => n (z ▸ List.mem_cons_self)
      rw [upd_ne this]
      exact h) (q.put hl ha) (Bds.put hl ha (fun z => n (List.mem_cons_of_mem _ z)) t)
end
def wantT : Want → Str
  | .word => "word"
  | .count _ => "count"
  | .bracket _ => "bracket"
def rsW : Want → List Int
  | .word => []
  | .count _ => []
  | .bracket c => [c]
/-- the rounds of the open repeats, the innermost first -/
def rsOf (s : Mst) : List Int := rsW s.w ++ s.stk.map (·.2)
def wdOk : Want → Str → Prop
  | .word, _ => True
  | .count w, wd => wd = w ∧ (w = "step" ∨ w = "turn" ∨ w = "repeat")
  | .bracket _, wd => wd = "repeat"
def dpW : Want → Nat
  | .word => 0
  | .count w => if w = "repeat" then 1 else 0
  | .bracket _ => 1
structure LR (K : PySem.W.Frag) (HT H : Hp) (BO RO : Addr) (bs : List Addr) (m : Nat) (s : Mst) : Prop where
  bo : H BO = some (.lst (bs.reverse.map V.ref))
  ro : H RO = some (.lst ((rsOf s).reverse.map V.int))
  bd : Bds K (Opn (BO :: RO :: bs)) H bs (s.cur :: s.stk.map (·.1))
  nd : (BO :: RO :: bs).Nodup
  nw : ∀ a ∈ BO :: RO :: bs, HT a = none
  sm : Same HT H
  n : s.n ≤ 100
  dp : s.stk.length + dpW s.w ≤ 2
  sz : ∀ b ∈ s.cur :: s.stk.map (·.1), b.length ≤ m
section
variable {K : PySem.W.Frag} {HT H : Hp} {BO RO : Addr} {bs : List Addr} {m : Nat} {s : Mst}
theorem LR.bsl (L : LR K HT H BO RO bs m s) : bs.length = s.stk.length + 1 := by
  have : ∀ {r : List Addr} {q : List (List Ins)} {G : Hp}, Bds K G H r q → r.length = q.length := by
    intro r q G h
    induction h with
    | nil => rfl
    | cons _ _ _ ih => rw [List.length_cons, List.length_cons, ih]
  rw [this L.bd, List.length_cons, List.length_map]
theorem LR.up (L : LR K HT H BO RO bs m s) {m' : Nat} (h : m ≤ m') : LR K HT H BO RO bs m' s := ⟨L.bo, L.ro, L.bd, L.nd, L.nw, L.sm, L.n, L.dp, fun b hb => Nat.le_trans (L.sz b hb) h⟩
theorem LR.same {H' : Hp} (e : Same H H') (L : LR K HT H BO RO bs m s) : LR K HT H' BO RO bs m s := ⟨e _ _ L.bo, e _ _ L.ro, L.bd.same e, L.nd, L.nw, L.sm.trans e, L.n, L.dp, L.sz⟩
theorem LR.apart (L : LR K HT H BO RO bs m s) : BO ≠ RO ∧ BO ∉ bs ∧ RO ∉ bs ∧ bs.Nodup := by
  have h1 := List.nodup_cons.mp L.nd
  have h2 := List.nodup_cons.mp h1.2
  exact ⟨fun z => h1.1 (z ▸ List.mem_cons_self), fun z => h1.1 (List.mem_cons_of_mem _ z), h2.1, h2.2⟩
/-- what is wanted next, when no list changes -/
theorem LR.want (L : LR K HT H BO RO bs m s) {s' : Mst} (h1 : s'.cur = s.cur) (h2 : s'.stk = s.stk) (h3 : rsW s'.w = rsW s.w) (h4 : s'.n ≤ 100) (h5 : s'.stk.length + dpW s'.w ≤ 2) : LR K HT H BO RO bs m s' := by
  have e : rsOf s' = rsOf s := by
    unfold rsOf
    rw [h3, h2]
  exact ⟨L.bo, by rw [e]; exact L.ro, by rw [h1, h2]; exact L.bd, L.nd, L.nw, L.sm, h4, h5, by rw [h1, h2]; exact L.sz⟩
/-- a number of rounds is read -/
theorem LR.round {cur : List Ins} {stk : List (List Ins × Int)} {n r : Nat} {c : Int} (L : LR K HT H BO RO bs m ⟨.count "repeat", cur, stk, n, r⟩) :
    LR K HT (upd H RO (.lst ((stk.map (·.2)).reverse.map V.int ++ [V.int c]))) BO RO bs m ⟨.bracket c, cur, stk, n, r⟩ := by
  obtain ⟨a1, a2, a3, a4⟩ := L.apart
  refine ⟨?_, ?_, L.bd.put (by simp) L.ro a3, L.nd, L.nw, same_mut L.sm (L.nw RO (by simp)), L.n, ?_, L.sz⟩
  · rw [upd_ne a1]
    exact L.bo
  · rw [upd_same]
    show _ = some (HO.lst (([c] ++ stk.map (·.2)).reverse.map V.int))
    rw [List.reverse_append, List.map_append]
    rfl
  · have := L.dp
    exact this
/-- a step or a turn is read -/
theorem LR.ins {w : Want} {cur : List Ins} {stk : List (List Ins × Int)} {n r : Nat} {i : Ins} {b : Addr} {bs : List Addr} {T : Addr} {o : HO} {ys : List V} (L : LR K HT H BO RO (b :: bs) m ⟨w, cur, stk, n, r⟩) (hw : rsW w = []) (nT : H T = none) (hb : H b = some (.lst ys)) (hi : NwI K (Opn (BO :: RO :: b :: bs)) (upd H T o) (.ref T) i) :
    LR K HT (upd (upd H T o) b (.lst (ys ++ [V.ref T]))) BO RO (b :: bs) (m + 1) ⟨.word, cur ++ [i], stk, n, r⟩ := by
  have s1 := same_new nT (o := o)
  have L1 := L.same s1
  obtain ⟨a1, a2, a3, a4⟩ := L1.apart
  have hb1 := s1 _ _ hb
  have inb : b ∈ BO :: RO :: b :: bs := by simp
  have nb : b ∉ bs := (List.nodup_cons.mp a4).1
  refine ⟨?_, ?_, ?_, L.nd, L.nw, same_mut L1.sm (L.nw b inb), L.n, ?_, ?_⟩
  · rw [upd_ne fun z => a2 (by rw [z]; exact List.mem_cons_self)]
    exact L1.bo
  · rw [upd_ne fun z => a3 (by rw [z]; exact List.mem_cons_self)]
    have := L1.ro
    unfold rsOf at this ⊢
    rw [hw] at this
    exact this
  · have hbd := L1.bd
    cases hbd with
    | cons h q t =>
      rw [hb1] at h
      cases h
      exact .cons upd_same ((q.app (.cons hi .nil)).put inb hb1) (t.put inb hb1 nb)
  · have := L.dp
    show stk.length + 0 ≤ 2
    change stk.length + dpW w ≤ 2 at this
    omega
  · intro q hq
    rcases List.mem_cons.mp hq with rfl | hq
    · have : cur.length ≤ m := L.sz cur (by simp)
      rw [List.length_append]
      exact Nat.succ_le_succ this
    · exact Nat.le_succ_of_le (L.sz q (List.mem_cons_of_mem _ hq))
/-- a repeat begins -/
theorem LR.push {cur : List Ins} {stk : List (List Ins × Int)} {n r : Nat} {c : Int} {D : Addr} (L : LR K HT H BO RO bs m ⟨.bracket c, cur, stk, n, r⟩) (nD : H D = none) :
    LR K HT (upd (upd H D (.lst [])) BO (.lst (bs.reverse.map V.ref ++ [V.ref D]))) BO RO (D :: bs) m ⟨.word, [], (cur, c) :: stk, n, r⟩ := by
  have s1 := same_new nD (o := HO.lst [])
  have L1 := L.same s1
  obtain ⟨a1, a2, a3, a4⟩ := L1.apart
  have nBD : BO ≠ D := fun z => by
    have := L.bo
    rw [z, nD] at this
    cases this
  have nRD : RO ≠ D := fun z => by
    have := L.ro
    rw [z, nD] at this
    cases this
  have nbD : D ∉ bs := fun z => by
    have : ∀ {r : List Addr} {q : List (List Ins)} {G : Hp}, Bds K G H r q → D ∉ r := by
      intro r q G h
      induction h with
      | nil => exact List.not_mem_nil
      | cons e _ _ ih =>
        intro z
        rcases List.mem_cons.mp z with rfl | z
        · rw [nD] at e
          cases e
        · exact ih z
    exact this L.bd z
  refine ⟨?_, ?_, ?_, ?_, ?_, same_mut L1.sm (L.nw BO (by simp)), L.n, ?_, ?_⟩
  · rw [upd_same, List.reverse_cons, List.map_append]
    rfl
  · rw [upd_ne a1.symm]
    exact L1.ro
  · have hbd : Bds K (Opn (BO :: RO :: D :: bs)) (upd H D (.lst [])) bs (cur :: stk.map (·.1)) := ((L.bd.more nD).same s1).sub fun a h => by
      simp only [List.mem_cons] at h ⊢
      rcases h with h | h | h | h
      · exact .inr (.inl h)
      · exact .inr (.inr (.inl h))
      · exact .inl h
      · exact .inr (.inr (.inr h))
    refine .cons (by rw [upd_ne nBD.symm]; exact upd_same) .nil (hbd.put (by simp) L1.bo a2)
  · rw [List.nodup_cons, List.nodup_cons, List.nodup_cons, List.mem_cons, List.mem_cons, List.mem_cons]
    exact ⟨fun z => z.elim a1 fun z => z.elim nBD a2, fun z => z.elim nRD a3, nbD, a4⟩
  · intro a ha
    by_cases z : a = D
    · rw [z]
      exact L.sm.free nD
    · refine L.nw a ?_
      simp only [List.mem_cons] at ha ⊢
      rcases ha with h | h | h | h
      · exact .inl h
      · exact .inr (.inl h)
      · exact absurd h z
      · exact .inr (.inr h)
  · have := L.dp
    show stk.length + 1 + 0 ≤ 2
    exact this
  · intro q hq
    rcases List.mem_cons.mp hq with rfl | hq
    · exact Nat.zero_le _
    · exact L.sz q hq
/-- a repeat ends -/
theorem LR.shut {cur o : List Ins} {stk : List (List Ins × Int)} {n r : Nat} {c : Int} {a b T : Addr} {bs : List Addr} {ys : List V} (L : LR K HT H BO RO (a :: b :: bs) m ⟨.word, cur, (o, c) :: stk, n, r⟩)
    (hb : H b = some (.lst ys)) (H1 H2 : Hp) (e1 : H1 = upd H BO (.lst ((b :: bs).reverse.map V.ref))) (e2 : H2 = upd H1 RO (.lst ((stk.map (·.2)).reverse.map V.int))) (nT : H2 T = none) :
    LR K HT (upd (upd H2 T (.tup [.str "repeat", .int c, .ref a])) b (.lst (ys ++ [V.ref T]))) BO RO (b :: bs) (m + 1) ⟨.word, o ++ [.rep c cur], stk, n, r⟩ := by
  subst e1
  subst e2
  obtain ⟨a1, a2, a3, a4⟩ := L.apart
  have aB : a ≠ BO := fun z => a2 (z ▸ List.mem_cons_self)
  have aR : a ≠ RO := fun z => a3 (z ▸ List.mem_cons_self)
  have bB : b ≠ BO := fun z => a2 (z ▸ List.mem_cons_of_mem _ List.mem_cons_self)
  have bR : b ≠ RO := fun z => a3 (z ▸ List.mem_cons_of_mem _ List.mem_cons_self)
  have ab : a ≠ b := fun z => (List.nodup_cons.mp a4).1 (z ▸ List.mem_cons_self)
  have hR1 : (upd H BO (HO.lst ((b :: bs).reverse.map V.ref))) RO = some (.lst ((rsOf ⟨.word, cur, (o, c) :: stk, n, r⟩).reverse.map V.int)) := by
    rw [upd_ne a1.symm]
    exact L.ro
  have all1 := (L.bd.put (zs := (b :: bs).reverse.map V.ref) (by simp) L.bo a2).put (zs := (stk.map (·.2)).reverse.map V.int) (by simp) hR1 a3
  have s3 := same_new nT (o := HO.tup [.str "repeat", .int c, .ref a])
  have all2 := all1.same s3
  have hb2 : (upd (upd H BO (HO.lst ((b :: bs).reverse.map V.ref))) RO (HO.lst ((stk.map (·.2)).reverse.map V.int))) b = some (.lst ys) := by
    rw [upd_ne bR, upd_ne bB]
    exact hb
  have hb3 := s3 _ _ hb2
  have sm1 : Same HT (upd H BO (HO.lst ((b :: bs).reverse.map V.ref))) := same_mut L.sm (L.nw BO (by simp))
  have sm2 := same_mut (o := HO.lst ((stk.map (·.2)).reverse.map V.int)) sm1 (L.nw RO (by simp))
  have less : ∀ x ∈ BO :: RO :: b :: bs, x ∈ BO :: RO :: a :: b :: bs := fun x h => by
    simp only [List.mem_cons] at h ⊢
    rcases h with h | h | h
    · exact .inl h
    · exact .inr (.inl h)
    · exact .inr (.inr (.inr h))
  have nb : b ∉ bs := (List.nodup_cons.mp (List.nodup_cons.mp a4).2).1
  have inb : b ∈ BO :: RO :: b :: bs := by simp
  have na' : a ∉ BO :: RO :: b :: bs := fun z => by
    simp only [List.mem_cons] at z
    rcases z with z | z | z | z
    · exact aB z
    · exact aR z
    · exact ab z
    · exact (List.nodup_cons.mp a4).1 (List.mem_cons_of_mem _ z)
  refine ⟨?_, ?_, ?_, ?_, fun x h => L.nw x (less x h), same_mut (sm2.trans s3) (L.nw b (by simp)), L.n, ?_, ?_⟩
  · rw [upd_ne bB.symm]
    refine s3 _ _ ?_
    rw [upd_ne a1]
    exact upd_same
  · rw [upd_ne bR.symm]
    refine s3 _ _ ?_
    rw [upd_same]
    rfl
  · cases all2 with
    | cons ha qa t =>
      cases t with
      | cons hb' qb t =>
        rw [hb3] at hb'
        cases hb'
        have sa : NwI K (Opn (BO :: RO :: b :: bs)) _ (.ref T) (.rep c cur) := .rep (SqT.of upd_same) (opn_free na') ha (qa.sub less)
        refine .cons upd_same (((qb.sub less).app (.cons sa .nil)).put inb hb3) ((t.sub less).put inb hb3 nb)
  · have d := L.nd
    rw [List.nodup_cons, List.nodup_cons] at d ⊢
    obtain ⟨d1, d2, d3⟩ := d
    refine ⟨fun z => d1 ?_, fun z => d2 (List.mem_cons_of_mem _ z), (List.nodup_cons.mp d3).2⟩
    rcases List.mem_cons.mp z with z | z
    · rw [z]
      exact List.mem_cons_self
    · exact List.mem_cons_of_mem _ (List.mem_cons_of_mem _ z)
  · have := L.dp
    change stk.length + 1 + 0 ≤ 2 at this
    show stk.length + 0 ≤ 2
    omega
  · intro q hq
    rcases List.mem_cons.mp hq with rfl | hq
    · have : o.length ≤ m := L.sz o (by simp)
      rw [List.length_append]
      exact Nat.succ_le_succ this
    · exact Nat.le_succ_of_le (L.sz q (by
        simp only [List.map_cons, List.mem_cons]
        exact .inr (.inr hq)))
end
theorem v_bc : ¬ V.str "bracket" = V.str "count" := fun z => absurd (V.str.inj z) (by decide +kernel)
theorem v_wc : ¬ V.str "word" = V.str "count" := fun z => absurd (V.str.inj z) (by decide +kernel)
theorem v_wb : ¬ V.str "word" = V.str "bracket" := fun z => absurd (V.str.inj z) (by decide +kernel)
theorem v_cb : ¬ V.str "count" = V.str "bracket" := fun z => absurd (V.str.inj z) (by decide +kernel)
theorem v_cw : ¬ V.str "count" = V.str "word" := fun z => absurd (V.str.inj z) (by decide +kernel)
theorem v_bw : ¬ V.str "bracket" = V.str "word" := fun z => absurd (V.str.inj z) (by decide +kernel)
theorem ctOf_some {t : Str} {c : Int} (h : ctOf t = some c) : PySem.intText? t = some c ∧ t.length ≤ 640 ∧ c.natAbs ≤ 10 ^ 30 := by
  unfold ctOf at h
  split at h
  · next g =>
    cases h
    have := ct_int g.1
    exact ⟨this.1, by omega, g.2⟩
  · cases h
theorem LR.head {K : PySem.W.Frag} {HT H : Hp} {BO RO : Addr} {bs : List Addr} {m : Nat} {s : Mst} (L : LR K HT H BO RO bs m s) : ∃ b r ys, bs = b :: r ∧ H b = some (.lst ys) ∧ ys.length ≤ m ∧ atI (bs.reverse.map V.ref) (-1) = some (.ref b) := by
  have h := L.bd
  cases h with
  | @cons a r xs b bs h q t =>
    refine ⟨a, r, xs, rfl, h, ?_, ?_⟩
    · rw [q.len]
      exact L.sz _ List.mem_cons_self
    · rw [List.reverse_cons, List.map_append]
      exact atI_last _ _
theorem word_in3 (t : Str) : inV (V.str t) [V.str "step", V.str "turn", V.str "repeat"] = decide (t = "step" ∨ t = "turn" ∨ t = "repeat") := by
  have q : ∀ z : Str, eqV (V.str z) (V.str t) = decide (t = z) := fun z => by
    show (z == t) = _
    rw [Bool.eq_iff_iff, beq_iff_eq, decide_eq_true_iff]
    exact eq_comm
  show (eqV (V.str "step") (V.str t) || (eqV (V.str "turn") (V.str t) || (eqV (V.str "repeat") (V.str t) || false))) = _
  rw [q, q, q, Bool.or_false, Bool.eq_iff_iff]
  simp
theorem eqv_nil_ints (ks : List Int) : (PyData.list (ks.map PyData.int)).eqv (.list []) = decide (ks = []) := by
  cases ks with
  | nil => rfl
  | cons t r => rfl
theorem last_of (xs : List V) (y : V) : (xs ++ [y])[(xs ++ [y]).length - 1]? = some y := by
  rw [List.length_append, List.length_singleton, Nat.add_sub_cancel, List.getElem?_append_right (Nat.le_refl _), Nat.sub_self]
  rfl
theorem rev_refs (a : Addr) (r : List Addr) : (a :: r).reverse.map V.ref = r.reverse.map V.ref ++ [V.ref a] := by
  rw [List.reverse_cons, List.map_append]
  rfl
theorem rev_ints (c : Int) (r : List Int) : (c :: r).reverse.map V.int = r.reverse.map V.int ++ [V.int c] := by
  rw [List.reverse_cons, List.map_append]
  rfl
theorem shut_not : ¬ ((("]" : Str) = "step") ∨ (("]" : Str) = "turn") ∨ (("]" : Str) = "repeat")) := by decide +kernel
/-- what the law's reader says -/
def lrD : Nat ⊕ List Ins → PyData
  | .inl q => .list [.str "error", .int q]
  | .inr b => .list [.str "program", .list (ldA b)]
def mInit : Mst := ⟨.word, [], [], 0, 0⟩
def sp__law_read (K : PySem.W.Frag) : Sp := fun vs H Q _ => ∃ t : Str, vs = [.str t] ∧ t.length ≤ 90000 ∧ Low t ∧ ∀ D H', Same H H' → Dp K H' (.ref D) (lrD (mrun (tksOf t) 0 mInit)) → Q (.ref D) H'
theorem joinL_mem {S : List Nat} : ∀ {ps : List (List Nat)} {p : List Nat} {c : Nat}, p ∈ ps → c ∈ p → c ∈ joinL S ps
  | [], _, _, h, _ => absurd h List.not_mem_nil
  | [q], p, c, h, hc => by
    rw [List.mem_singleton.mp h] at hc
    exact hc
  | q :: q2 :: r, p, c, h, hc => by
    rw [joinL_cons (by simp)]
    rcases List.mem_cons.mp h with rfl | h
    · exact List.mem_append.mpr (.inl hc)
    · exact List.mem_append.mpr (.inr (List.mem_append.mpr (.inr (joinL_mem h hc))))
theorem jn_split (t : Str) : jn (Txt.split t " ") = t := by
  unfold jn
  rw [join_eq]
  exact PySem.StrLaws.join_split t " "
theorem low_split {t u : Str} (h : Low t) (hu : u ∈ Txt.split t " ") : Low u := fun c hc => by
  refine h c ?_
  rw [← jn_split t, tl_jn]
  exact joinL_mem (List.mem_map.mpr ⟨u, hu, rfl⟩) hc
theorem low_tks {t u : Str} (h : Low t) (hu : u ∈ tksOf t) : Low u := by
  unfold tksOf at hu
  split at hu
  · exact absurd hu List.not_mem_nil
  · exact low_split h hu
end DR
/-! ### what parse_program says or raises, as the law writes it down -/
namespace DR
open PySem PySem.Spec PyProof.Rows L2 TL
/-- what isinstance says of an InvalidText -/
structure IsPR (K : PySem.W.Frag) (mg : Str → Option Value) (C C1 C2 C3 : Addr) : Prop where
  ve : mg "ValueError" = none
  z1 : mg "InvalidLine" = some (.ref C1)
  z2 : mg "InvalidName" = some (.ref C2)
  z3 : mg "InvalidProgram" = some (.ref C3)
  k1 : PySem.W.kitOne K (.ref C) (.type "ValueError") = some true
  k2 : PySem.W.kitAny K (.ref C) [.ref C1, .ref C2, .ref C3] = some false
  ec : ExcC K C
  em : PySem.W.exmOne K (.ref C) (.ref C) = some true
def sp__law_parsed (K : PySem.W.Frag) : Sp := fun vs H Q _ => ∃ t : Str, vs = [.str t] ∧ t.length ≤ 90000 ∧ ∀ D H', Same H H' → Dp K H' (.ref D) (lrD (resR (readT (tksOf t)))) → Q (.ref D) H'
end DR
/-! ### a text with one token or one sign changed -/
namespace DR
open PySem PySem.Spec PyProof.Rows L2 TL
def sp__law_pickS : Sp := fun vs H Q _ => ∃ (p c : Addr) (z : Str) (n : Nat), vs = [.ref p, .str z] ∧ PenAt H p c n ∧ n < 2 ^ 40 ∧ 0 < z.length ∧ z.length ≤ 100000 ∧ ∀ i H', i ∈ tl z → Kp p H H' → PenAt H' p c (n + 1) → Q (.str ⟨#[i]⟩) H'
def sp__law_spoilt : Sp := fun vs H Q _ => ∃ (p c : Addr) (t : Str) (n : Nat), vs = [.ref p, .str t] ∧ PenAt H p c n ∧ n < 2 ^ 39 ∧ t.length ≤ 40000 ∧ Low t ∧ ∀ u H', Kp p H H' → PenAt H' p c (n + 5) → Low u → u.length ≤ 2 * t.length + 50 → Q (.str u) H'
/-- how long tokens are, with a blank each -/
def smT (ts : List Str) : Nat := (ts.map fun t => t.length + 1).sum
theorem smT_app (a b : List Str) : smT (a ++ b) = smT a + smT b := by
  unfold smT
  rw [List.map_append, List.sum_append]
theorem smT_sum (us : List Str) : (us.map fun x => x.length).sum + us.length * (" " : Str).length = smT us := by
  rw [show (" " : Str).length = 1 from by decide +kernel, Nat.mul_one]
  unfold smT
  induction us with
  | nil => rfl
  | cons u r ih =>
    rw [List.map_cons, List.map_cons, List.sum_cons, List.sum_cons, List.length_cons, ← ih]
    omega
theorem smT_jn : ∀ ts : List Str, smT ts ≤ (jn ts).length + 1
  | [] => Nat.zero_le _
  | [t] => by
    rw [jn_one]
    unfold smT
    simp
  | t :: u :: r => by
    have ih := smT_jn (u :: r)
    have e : jn (t :: u :: r) = jn [t] ++ " " ++ jn (u :: r) := jn_two (a := [t]) (b := u :: r) (by simp) (by simp)
    have l : (jn (t :: u :: r)).length = t.length + 1 + (jn (u :: r)).length := by
      rw [e, jn_one, len_tl, tl_append, tl_append, List.length_append, List.length_append, tl_blank, ← len_tl, ← len_tl]
      rfl
    rw [l]
    have : smT (t :: u :: r) = t.length + 1 + smT (u :: r) := by
      unfold smT
      rw [List.map_cons, List.sum_cons]
    omega
theorem smT_tk (ts : List Str) (k : Nat) : smT (ts.take k) ≤ smT ts := by
  have := smT_app (ts.take k) (ts.drop k)
  rw [List.take_append_drop] at this
  omega
theorem smT_dr (ts : List Str) (k : Nat) : smT (ts.drop k) ≤ smT ts := by
  have := smT_app (ts.take k) (ts.drop k)
  rw [List.take_append_drop] at this
  omega
theorem smT_cut (ts : List Str) {j k : Nat} (h : j ≤ k) : smT (ts.take j ++ ts.drop k) ≤ smT ts := by
  have h1 := smT_app (ts.take k) (ts.drop k)
  rw [List.take_append_drop] at h1
  have h2 : smT (ts.take j) ≤ smT (ts.take k) := by
    have e : (ts.take k).take j = ts.take j := by rw [List.take_take, Nat.min_eq_left h]
    rw [← e]
    exact smT_tk _ _
  rw [smT_app]
  omega
/-- some tokens are made of those of a text and of odd ones -/
def OfT (ts : List Str) (m : Nat) (us : List Str) : Prop := (∀ u ∈ us, u ∈ ts ∨ (Low u ∧ u.length ≤ 40)) ∧ smT us ≤ m
theorem OfT.tk {ts : List Str} (k : Nat) : OfT ts (smT ts) (ts.take k) := ⟨fun _ h => .inl (List.mem_of_mem_take h), smT_tk _ _⟩
theorem OfT.dr {ts : List Str} (k : Nat) : OfT ts (smT ts) (ts.drop k) := ⟨fun _ h => .inl (List.mem_of_mem_drop h), smT_dr _ _⟩
theorem OfT.app {ts us vs : List Str} {m n : Nat} (a : OfT ts m us) (b : OfT ts n vs) : OfT ts (m + n) (us ++ vs) := ⟨fun u h => (List.mem_append.mp h).elim (a.1 u) (b.1 u), by rw [smT_app]; exact Nat.add_le_add a.2 b.2⟩
theorem OfT.odd {ts : List Str} {x : Str} (h : Low x ∧ x.length ≤ 40) : OfT ts 41 [x] := ⟨fun u hu => .inr (by rw [List.mem_singleton.mp hu]; exact h), by
  unfold smT
  simp
  omega⟩
theorem OfT.up {ts us : List Str} {m n : Nat} (a : OfT ts m us) (h : m ≤ n) : OfT ts n us := ⟨a.1, Nat.le_trans a.2 h⟩
theorem OfT.text {t : Str} {us : List Str} (h : Low t) (a : OfT (Txt.split t " ") (2 * smT (Txt.split t " ") + 41) us) : Low (jn us) ∧ (jn us).length ≤ 2 * t.length + 50 := by
  refine ⟨low_jn fun u hu => (a.1 u hu).elim (low_split h) fun z => z.1, ?_⟩
  have h1 := jn_len us
  have h2 := smT_jn (Txt.split t " ")
  rw [jn_split] at h2
  have h3 := a.2
  unfold smT at h2 h3
  omega
/-- each of these is a text without odd signs, and short -/
def oddV : V → Bool
  | .str x => decide (Low x) && decide (x.length ≤ 40)
  | _ => false
theorem oddV_at {v : V} (h : oddV v = true) : ∃ x : Str, v = .str x ∧ Low x ∧ x.length ≤ 40 := by
  cases v with
  | str x =>
    unfold oddV at h
    rw [Bool.and_eq_true] at h
    exact ⟨x, rfl, of_decide_eq_true h.1, of_decide_eq_true h.2⟩
  | _ => cases h
/-! pieces of lists of texts -/
theorem cutV_to (ts : List Str) (k : Nat) : cutV (ts.map V.str) none (some (k : Int)) = (ts.take k).map V.str := by
  show List.take (HT.sIx (ts.map V.str).length (ts.map V.str).length (some (k : Int)) - HT.sIx (ts.map V.str).length 0 none) (List.drop (HT.sIx (ts.map V.str).length 0 none) (ts.map V.str)) = _
  rw [sIx_nat, sIx_none, List.drop_zero, Nat.sub_zero, List.map_take, ← List.take_eq_take_min]
theorem cutV_from (ts : List Str) (k : Nat) : cutV (ts.map V.str) (some (k : Int)) none = (ts.drop k).map V.str := by
  show List.take (HT.sIx (ts.map V.str).length (ts.map V.str).length none - HT.sIx (ts.map V.str).length 0 (some (k : Int))) (List.drop (HT.sIx (ts.map V.str).length 0 (some (k : Int))) (ts.map V.str)) = _
  rw [sIx_nat, sIx_none, List.map_drop]
  by_cases h : k ≤ (ts.map V.str).length
  · rw [Nat.min_eq_left h, List.take_of_length_le (by rw [List.length_drop]; exact Nat.le_refl _)]
  · rw [Nat.min_eq_right (by omega), List.drop_length, List.drop_eq_nil_of_le (by omega), List.take_nil]
theorem split_some (t : Str) : Txt.split t " " ≠ [] := fun z => by
  have e := jn_split t
  rw [z, jn_nil] at e
  rw [← e] at z
  exact absurd z (by decide +kernel)
theorem low_cut {t : Str} (h : Low t) (lo hi : Option Int) : Low (cutS t lo hi) := fun c hc => h c (List.mem_of_mem_drop (List.mem_of_mem_take hc))
theorem len_cut (t : Str) (lo hi : Option Int) : (cutS t lo hi).length ≤ t.length := by
  rw [len_tl, len_tl t]
  show (List.take _ (List.drop _ (tl t))).length ≤ _
  rw [List.length_take, List.length_drop]
  omega
theorem low_app {a b : Str} (h1 : Low a) (h2 : Low b) : Low (a ++ b) := fun c hc => by
  rw [tl_append] at hc
  exact (List.mem_append.mp hc).elim (h1 c) (h2 c)
theorem len_app (a b : Str) : (a ++ b).length = a.length + b.length := by
  rw [len_tl, len_tl, len_tl, tl_append, List.length_append]
theorem mul_ok (x : Str) (n : Int) (h : (decide (n < -2 ^ 63) || decide (n ≥ 2 ^ 63)) = false ∧ ¬ (x.length : Int) > (2 ^ 63 - 1) / n ∧ Builtin.Str.tooLong (x.length * n.toNat) = false) : MulOk x n := ⟨h.1, fun _ _ => h.2.1, fun _ _ => h.2.2⟩
def sp__law_any_text : Sp := fun vs H Q _ => ∃ (p c : Addr) (n : Nat), vs = [.ref p] ∧ PenAt H p c n ∧ n < 2 ^ 36 ∧ ∀ u H', Kp p H H' → PenAt H' p c (n + 2100) → Low u → u.length ≤ 60000 → Q (.str u) H'
theorem rep_strs (k : Nat) (x : Str) : (List.replicate k [V.str x]).flatten = (List.replicate k x).map V.str := by
  induction k with
  | zero => rfl
  | succ k ih =>
    rw [List.replicate_succ, List.replicate_succ, List.flatten_cons, ih]
    rfl
theorem smT_rep (k : Nat) (x : Str) : smT (List.replicate k x) = k * (x.length + 1) := by
  induction k with
  | zero => rw [Nat.zero_mul]; rfl
  | succ k ih =>
    rw [List.replicate_succ, Nat.succ_mul, ← ih]
    unfold smT
    rw [List.map_cons, List.sum_cons]
    omega
end DR
/-! ### what is read keeps the document's bounds -/
namespace DR
open PySem PySem.Spec PyProof.Rows L2 TL
theorem rdP_ok {T : List Str} : ∀ {f : Nat} {s s1 : RS} {b : List Ins}, s.p ≤ T.length → s.n ≤ 100 → rdP T f s = .ok b s1 → GoP T 2 s b s1
  | 0, s, s1, b, _, _, h => by
    unfold rdP at h
    cases h
  | f + 1, s, s1, b, hp, hn, h => by
    by_cases he : s.p = T.length
    · rw [rdP_end he] at h
      cases h
      exact ⟨Nat.le_refl _, hp, by rw [cnP_nil']; rfl, id, by rw [rpP_nil]; rfl, id, by unfold CtP; trivial, by rw [dpP_nil']; decide⟩
    · cases e : rdI T 2 s with
      | bad q =>
        rw [rdP_bad he e] at h
        cases h
      | ok i s2 =>
        rw [rdP_more he e] at h
        obtain ⟨g, gn⟩ := rdI_ok hn e
        cases e2 : rdP T f s2 with
        | bad q =>
          rw [e2] at h
          cases h
        | ok c s3 =>
          rw [e2] at h
          cases h
          have G := rdP_ok g.q gn e2
          refine ⟨?_, G.q, ?_, fun _ => G.n1 gn, ?_, fun z => G.r1 (g.r1 z), ?_, ?_⟩
          · have := g.p
            have := G.p
            omega
          · show s1.n = s.n + cnP (i :: c)
            rw [cnP_cons, G.n, g.n]
            omega
          · show s1.r = s.r + rpP (i :: c)
            rw [rpP_cons, G.r, g.r]
            omega
          · show CtP (i :: c)
            rw [CtP_cons]
            exact ⟨g.g, G.g⟩
          · show dpP (i :: c) ≤ 2
            rw [dpP_cons]
            exact Nat.max_le.mpr ⟨g.d, G.d⟩
theorem read_gd {T : List Str} {b : List Ins} {s : RS} (h : readT T = .ok b s) : GdP b 2 100 5 := by
  have G := rdP_ok (s := ⟨0, 0, 0⟩) (Nat.zero_le _) (Nat.zero_le _) h
  have h1 := G.n1 (Nat.zero_le _)
  have h2 := G.r1 (Nat.zero_le _)
  have e1 := G.n
  have e2 := G.r
  exact ⟨G.d, G.g, by simp at e1; omega, by simp at e2; omega⟩
theorem mrun_le : ∀ (T : List Str) (p : Nat) (s : Mst) {q : Nat}, mrun T p s = .inl q → q ≤ p + T.length
  | [], p, s, q, h => by
    unfold mrun mend at h
    split at h
    · split at h
      · cases h
      · cases h
        exact Nat.le_add_right _ _
    · cases h
      exact Nat.le_add_right _ _
    · cases h
      exact Nat.le_add_right _ _
  | t :: r, p, s, q, h => by
    unfold mrun at h
    split at h
    · cases h
      exact Nat.le_add_right _ _
    · have := mrun_le r (p + 1) _ h
      rw [List.length_cons]
      omega
theorem lr_fits {T : List Str} (hT : T.length ≤ 1000000) : Fits 20000 7 (lrD (resR (readT T))) := by
  cases e : readT T with
  | bad q =>
    have := mrun_le T 0 mInit (q := q) (by rw [show mInit = ⟨.word, [], [], 0, 0⟩ from rfl, mrun_read, e]; rfl)
    have hq : ((q : Nat) : Int).natAbs < 10 ^ 100 := Nat.lt_of_le_of_lt (show ((q : Nat) : Int).natAbs ≤ 1000000 by omega) (by decide)
    exact (fits_l2 (fits_txt (t := "error") (n := 10) (by decide +kernel) (by decide +kernel)) (fits_int hq)).up (by decide) (by decide)
  | ok b s =>
    have gd := read_gd e
    have lf := ld_fits (ct_wp 100 (by decide) gd.c gd.g)
    have h1 := gd.c
    have h2 := gd.d
    exact (fits_l2 (fits_txt (t := "program") (n := 10) (by decide +kernel) (by decide +kernel)) lf).up (by omega) (by omega)
/-- the three things repr asks -/
theorem lr_says {T : List Str} (hT : T.length ≤ 1000000) : (lrD (resR (readT T))).showable = true ∧ ((lrD (resR (readT T))).hasDict = true → lrD (resR (readT T)) = .dict []) ∧ (lrD (resR (readT T))).depth ≤ 64 ∧ (lrD (resR (readT T))).shown.length ≤ sizeLine := by
  have f := lr_fits hT
  exact ⟨f.sh, (fun z => by rw [f.nd] at z; cases z), Nat.le_trans f.dp (by decide), sl_of (Nat.le_trans f.ln (by decide))⟩
end DR
namespace DR
open PySem PySem.Spec PyProof.Rows L2
def topS (i : Nat) : Stmt := PySem.Challenge.pw_dialroad_k45_texts_refused.main.body.getD i (.Pass ⟨0, 0, 0, 0⟩)
abbrev s_InvalidText___init__ : Stmt := inClass (topS 1) 0
abbrev s_InvalidLine___init__ : Stmt := inClass (topS 2) 0
abbrev s_InvalidName___init__ : Stmt := inClass (topS 3) 0
abbrev s_InvalidProgram___init__ : Stmt := inClass (topS 4) 0
abbrev s_is_whole : Stmt := topS 6
abbrev s_is_count : Stmt := topS 12
abbrev s_count_of : Stmt := topS 16
abbrev s_Reader___init__ : Stmt := inClass (topS 17) 0
abbrev s_Reader_has_ended : Stmt := inClass (topS 17) 1
abbrev s_Reader_token : Stmt := inClass (topS 17) 2
abbrev s_Reader_read_word : Stmt := inClass (topS 17) 3
abbrev s_Reader_read_count : Stmt := inClass (topS 17) 4
abbrev s_Reader_read_bracket : Stmt := inClass (topS 17) 5
abbrev s_Reader_read_instruction : Stmt := inClass (topS 17) 6
abbrev s_parse_program : Stmt := topS 18
abbrev s__law_pen : Stmt := topS 20
abbrev s__law_draw : Stmt := topS 21
abbrev s__law_pick : Stmt := topS 22
abbrev s__law_integer : Stmt := topS 23
abbrev s__law_body : Stmt := topS 24
abbrev s__law_program : Stmt := topS 25
abbrev s__law_wide_program : Stmt := topS 26
abbrev s__law_full_program : Stmt := topS 27
abbrev s__law_text : Stmt := topS 28
abbrev s__law_is_count : Stmt := topS 29
abbrev s__law_read : Stmt := topS 30
abbrev s__law_spoilt : Stmt := topS 31
abbrev s__law_parsed : Stmt := topS 32
abbrev s__law_any_text : Stmt := topS 33
abbrev s_law : Stmt := topS 34
/-- the built-in names that the texts use are still the built-in ones -/
structure Blt (mg : Str → Option Value) : Prop where
  tuple : mg "tuple" = none
  sorted : mg "sorted" = none
  range : mg "range" = none
  list : mg "list" = none
  len : mg "len" = none
  abs : mg "abs" = none
  repr : mg "repr" = none
  int : mg "int" = none
  bool : mg "bool" = none
  dict : mg "dict" = none
  min : mg "min" = none
  max : mg "max" = none
  zip : mg "zip" = none
  all : mg "all" = none
  isinstance : mg "isinstance" = none
  sum : mg "sum" = none
  any : mg "any" = none
  str : mg "str" = none
  set : mg "set" = none
  reversed : mg "reversed" = none
  enumerate : mg "enumerate" = none
section
variable {P : Program} {w : World} {K : PySem.W.Frag} {mg : Str → Option Value} {base : Heap}
theorem sc_Reader___init__ : FnScope ["self", "tokens"] ["self", "tokens"] (defScope s_Reader___init__) := ⟨rfl, rfl, rfl, by decide +kernel, rfl, by decide +kernel, by decide +kernel⟩
theorem ok_Reader___init__ {f C : Addr} {fd : FuncData} (F : Fun K "__init__" "Reader.__init__" s_Reader___init__ f fd) (T : ClR K mg C) : FnOk P w K mg base CX0 1 f fd ["self", "tokens"] (sp_reader C) := by
  refine F.ok sc_Reader___init__ (fun vs H Q E h => ?_) (fun cdv A outer s H vs Q E hr h => ?_)
  · obtain ⟨p, dx, a, rfl, _⟩ := h
    rfl
  · obtain ⟨p, dx, a, rfl, hp, k⟩ := h
    refine ⟨_, (pss_cons (ps_fld (pv 0) (pv 1) rfl)
    (pss_cons (ps_fld (pv 0) pe_int rfl)
    (pss_cons (ps_fld (pv 0) pe_int rfl)
    (pss_one (ps_fld (pv 0) pe_int rfl))))), ?_⟩
    refine ⟨_, rfl, _, rfl, p, C, dx, [], rfl, hp, T.cl, T.nt, (by decide : 0 < 1000), ?_⟩
    refine ⟨_, rfl, p, C, dx, _, rfl, upd_same, T.cl, T.na, (by show 1 < 1000; decide), ?_⟩
    refine ⟨_, rfl, p, C, dx, _, rfl, upd_same, T.cl, T.ni, ?_, ?_⟩
    · exact Nat.lt_of_le_of_lt (length_putF _ _ _) (by show 1 + 1 < 1000; decide)
    refine ⟨_, rfl, p, C, dx, _, rfl, upd_same, T.cl, T.nr, ?_, ?_⟩
    · exact Nat.lt_of_le_of_lt (length_putF _ _ _) (Nat.lt_of_le_of_lt (Nat.succ_le_succ (length_putF _ _ _)) (by show 1 + 1 + 1 < 1000; decide))
    refine k _ (fun b o hb e => by rw [upd_ne hb, upd_ne hb, upd_ne hb, upd_ne hb]; exact e) ?_
    rw [upd_same]
    have e : putF "repeats" (.int 0) (putF "instructions" (.int 0) (putF "at" (.int 0) (putF "tokens" (.ref a) []))) = rdF a ⟨0, 0, 0⟩ := by
      show putF "repeats" (.int 0) (putF "instructions" (.int 0) (if ("tokens" : Str) = "at" then _ else [(("tokens" : Str), V.ref a), (("at" : Str), V.int 0)])) = _
      rw [if_neg nmR2.1]
      show putF "repeats" (.int 0) (if ("tokens" : Str) = "instructions" then _ else (("tokens" : Str), V.ref a) :: (if ("at" : Str) = "instructions" then _ else [(("at" : Str), V.int 0), (("instructions" : Str), V.int 0)])) = _
      rw [if_neg nmR2.2.1, if_neg nmR2.2.2.2.1]
      show (if ("tokens" : Str) = "repeats" then _ else (("tokens" : Str), V.ref a) :: (if ("at" : Str) = "repeats" then _ else (("at" : Str), V.int 0) :: (if ("instructions" : Str) = "repeats" then _ else [(("instructions" : Str), V.int 0), (("repeats" : Str), V.int 0)]))) = _
      rw [if_neg nmR2.2.2.1, if_neg nmR2.2.2.2.2.1, if_neg nmR2.2.2.2.2.2]
      rfl
    exact congrArg (fun l => some (HO.ins C dx l)) e
theorem sc_Reader_has_ended : FnScope ["self"] ["self"] (defScope s_Reader_has_ended) := ⟨rfl, rfl, rfl, by decide +kernel, rfl, by decide +kernel, by decide +kernel⟩
theorem ok_Reader_has_ended {f C : Addr} {fd : FuncData} (F : Fun K "has_ended" "Reader.has_ended" s_Reader_has_ended f fd) (B : Blt mg) (T : ClR K mg C) : FnOk P w K mg base CX0 1 f fd ["self"] (sp_has_ended C) := by
  refine F.ok sc_Reader_has_ended (fun vs H Q E h => ?_) (fun cdv A outer s H vs Q E hr h => ?_)
  · obtain ⟨p, a, T, s, rfl, _⟩ := h
    rfl
  · obtain ⟨p, a, U, s, rfl, R, k⟩ := h
    obtain ⟨dx, e⟩ := R.ob
    refine ⟨_, (pss_one (ps_ret (pe_cmpR op_eq (pe_fld (pv 0) rfl) (pe_callB call_len_seq (by rfl) B.len (by decide +kernel) (pa_cons (pe_fld (pv 0) rfl) pa_nil)) (nomark _)))), ?_⟩
    refine ⟨_, rfl, p, C, dx, _, _, rfl, e, T.cl, T.na, rd_at _ _, _, rfl, p, C, dx, _, _, rfl, e, T.cl, T.nt, rd_tokens _ _, a, _, rfl, .inl (SqL.of R.tk), rfl, ?_⟩
    have z : decide (V.int (s.p : Int) = V.int (((U.map V.str).length : Nat) : Int)) = decide (s.p = U.length) := by
      rw [List.length_map, decide_eq_decide]
      exact ⟨fun z => Int.ofNat.inj (V.int.inj z), fun z => by rw [z]⟩
    show Q (V.bl _) H
    rw [z]
    exact k
theorem sc_Reader_token : FnScope ["self"] ["self"] (defScope s_Reader_token) := ⟨rfl, rfl, rfl, by decide +kernel, rfl, by decide +kernel, by decide +kernel⟩
theorem ok_Reader_token {f C CI : Addr} {fd : FuncData} (F : Fun K "token" "Reader.token" s_Reader_token f fd) (B : Blt mg) (T : ClR K mg C) (Z : TxtF P w K mg base CI) (M_has_ended : MetC CX0 P w K mg base C 1 "has_ended" (sp_has_ended C)) : FnOk P w K mg base (L2.CX P w) 3 f fd ["self"] (sp_token C CI) := by
  refine F.okX sc_Reader_token (fun vs H Q E h => ?_) (fun cdv A outer s H vs Q E hr h => ?_)
  · obtain ⟨p, a, T, s, rfl, _⟩ := h
    rfl
  · obtain ⟨p, a, U, s, rfl, R, k, kx⟩ := h
    obtain ⟨dx, e⟩ := R.ob
    have tk := takes_of (X := cxOf (L2.CX P w) P w K mg base ["self"] "Reader.token" (defScope s_Reader_token) f cdv A outer ‹Shared› H E) rfl rfl rfl rfl
    refine ⟨_, (pss_cons (ps_if (pt_val (pe_meth0 (pv 0) T.cl M_has_ended.hm M_has_ended.ok (hr.mono (by decide)) M_has_ended.b .nil (E := E0) pass0))
      (pss_one (ps_raiseF Z rfl tk hr (by decide) (by rfl) (pa_cons (pe_fld (pv 0) rfl) pa_nil)))
      pss_nil)
    (pss_one (ps_ret (pe_ix ix_list (pe_fld (pv 0) rfl) (pe_fld (pv 0) rfl) (fun _ _ => rfl))))), ?_⟩
    refine ⟨_, rfl, p, dx, _, rfl, e, rd_no _ _ (by decide +kernel), p, a, U, s, rfl, R, _, rfl, ?_⟩
    by_cases q : s.p = U.length
    · refine iteS q ?_
      refine ⟨_, rfl, p, C, dx, _, _, rfl, e, T.cl, T.na, rd_at _ _, _, rfl, fun d nd => ?_⟩
      exact kx (List.getElem?_eq_none (Nat.le_of_eq q.symm)) d H (fun _ _ _ z => z) nd
    · refine iteN q ?_
      have lt : s.p < U.length := Nat.lt_of_le_of_ne R.le q
      have g : (U.map V.str)[s.p]? = some (V.str U[s.p]) := by rw [List.getElem?_map, List.getElem?_eq_getElem lt]; rfl
      refine ⟨_, rfl, p, C, dx, _, _, rfl, e, T.cl, T.nt, rd_tokens _ _, _, rfl, p, C, dx, _, _, rfl, e, T.cl, T.na, rd_at _ _, a, _, (s.p : Int), _, rfl, rfl, SqL.of R.tk, atI_nat g, ?_⟩
      exact k _ (List.getElem?_eq_getElem lt)
theorem sc_Reader_read_word : FnScope ["self", "depth", "word"] ["self", "depth"] (defScope s_Reader_read_word) := ⟨rfl, rfl, rfl, by decide +kernel, rfl, by decide +kernel, by decide +kernel⟩
theorem word_in (t : Str) : inV (V.str t) [V.str "step", V.str "turn", V.str "repeat"] = decide (t = "step" ∨ t = "turn" ∨ t = "repeat") := by
  have q : ∀ z : Str, eqV (V.str z) (V.str t) = decide (t = z) := fun z => by
    show (z == t) = _
    rw [Bool.eq_iff_iff, beq_iff_eq, decide_eq_true_iff]
    exact eq_comm
  show (eqV (V.str "step") (V.str t) || (eqV (V.str "turn") (V.str t) || (eqV (V.str "repeat") (V.str t) || false))) = _
  rw [q, q, q, Bool.or_false, Bool.eq_iff_iff]
  simp
theorem ok_Reader_read_word {f C CI : Addr} {fd : FuncData} (F : Fun K "read_word" "Reader.read_word" s_Reader_read_word f fd) (B : Blt mg) (T : ClR K mg C) (Z : TxtF P w K mg base CI) {t1 t2 t3 : Tok} (G_MOST_INSTRUCTIONS : mg "MOST_INSTRUCTIONS" = some (.int 100 t1)) (G_DEEPEST : mg "DEEPEST" = some (.int 2 t2)) (G_MOST_REPEATS : mg "MOST_REPEATS" = some (.int 5 t3))
    (M_token : MetC (L2.CX P w) P w K mg base C 3 "token" (sp_token C CI)) : FnOk P w K mg base (L2.CX P w) 4 f fd ["self", "depth"] (sp_read_word C CI) := by
  refine F.okX sc_Reader_read_word (fun vs H Q E h => ?_) (fun cdv A outer s H vs Q E hr h => ?_)
  · obtain ⟨p, a, T, s, k, rfl, _⟩ := h
    rfl
  · obtain ⟨p, a, U, s, dep, rfl, hdep, R, k, kx⟩ := h
    obtain ⟨dx, e⟩ := R.ob
    have nd := sc_Reader_read_word.nd
    have tk := takes_of (X := cxOf (L2.CX P w) P w K mg base ["self", "depth", "word"] "Reader.read_word" (defScope s_Reader_read_word) f cdv A outer ‹Shared› H E) rfl rfl rfl rfl
    refine ⟨_, (pss_cons (ps_set (i := 2) nd rfl (.inl rfl) (pe_meth0 (pv 0) T.cl M_token.hm M_token.ok (hr.mono (by decide)) M_token.b .nil (passes_call tk (fun _ _ _ _ z => z))))
    (pss_cons (ps_if (PW.pt (pw_or (pt_cmpR op_notIn_seq (pv 2) (pe_tup (pa_cons pe_str (pa_cons pe_str (pa_cons pe_str pa_nil)))) rfl) (pw_or1 (pt_cmpR op_eq (pe_fld (pv 0) rfl) (pe_glob (v := .int 100) rfl G_MOST_INSTRUCTIONS ⟨_, rfl⟩) (nomark _)))))
      (pss_one (ps_raiseF Z rfl tk hr (by decide) (by rfl) (pa_cons (pe_fld (pv 0) rfl) pa_nil)))
      pss_nil)
    (pss_cons (ps_cut (ps_if (pt_cmpR op_eq (pv 2) pe_str (nomark _))
      (pss_cons (ps_if (PW.pt (pw_or (pt_cmpR op_eq (pv 1) (pe_glob (v := .int 2) rfl G_DEEPEST ⟨_, rfl⟩) (nomark _)) (pw_or1 (pt_cmpR op_eq (pe_fld (pv 0) rfl) (pe_glob (v := .int 5) rfl G_MOST_REPEATS ⟨_, rfl⟩) (nomark _)))))
      (pss_one (ps_raiseF Z rfl tk hr (by decide) (by rfl) (pa_cons (pe_fld (pv 0) rfl) pa_nil)))
      pss_nil)
    (pss_one (ps_fldaug (pv 0) pe_int in_add)))
      pss_nil))
    (pss_cons (ps_fldaug (pv 0) pe_int in_add)
    (pss_cons (ps_fldaug (pv 0) pe_int in_add)
    (pss_one (ps_ret (pv 2)))))))), ?_⟩
    refine ⟨_, rfl, p, dx, _, rfl, e, rd_no _ _ (by decide +kernel), p, a, U, s, rfl, R, fun t ht => ?_, fun hn => ?_⟩
    rotate_left
    · exact kx s.p (by unfold rdW; rw [hn])
    have rd : rdW U dep s = (if ¬ (t = "step" ∨ t = "turn" ∨ t = "repeat") ∨ s.n = 100 then .bad s.p else
      if t = "repeat" ∧ (dep = 0 ∨ s.r = 5) then .bad s.p else .ok t ⟨s.p + 1, s.n + 1, if t = "repeat" then s.r + 1 else s.r⟩) := by
      unfold rdW
      rw [ht] <;> rfl
    refine ⟨_, rfl, sl_of (show 3 ≤ 1000000 by decide), fun tp ntp => ?_⟩
    have s1 := same_new ntp (o := HO.tup [V.str "step", V.str "turn", V.str "repeat"])
    have e1 := s1 _ _ e
    have R1 := R.same s1
    refine ⟨tp, _, rfl, .inr (SqT.of upd_same), rfl, rfl, _, rfl, ?_⟩
    rw [word_in]
    have bad : rdW U dep s = .bad s.p → ∀ d H', Kp p H H' → H' d = none → E (.ref CI) (some d) (upd H' d (.xd [("position", .int (s.p : Int))])) := fun z => kx _ z
    by_cases hw : t = "step" ∨ t = "turn" ∨ t = "repeat"
    rotate_left
    · rw [decide_eq_false hw]
      refine iteT (iteT ?_)
      refine ⟨_, rfl, p, C, dx, _, _, rfl, e1, T.cl, T.na, rd_at _ _, _, rfl, fun d nd => ?_⟩
      exact bad (by rw [rd, if_pos (.inl hw)]) d _ (Same.kp s1) nd
    rw [decide_eq_true hw]
    refine iteF ?_
    refine ⟨_, rfl, p, C, dx, _, _, rfl, e1, T.cl, T.ni, rd_instructions _ _, rfl, _, rfl, ?_⟩
    by_cases hn : s.n = 100
    · refine iteS (by rw [hn]; rfl) ?_
      refine ⟨_, rfl, p, C, dx, _, _, rfl, e1, T.cl, T.na, rd_at _ _, _, rfl, fun d nd => ?_⟩
      exact bad (by rw [rd, if_pos (.inr hn)]) d _ (Same.kp s1) nd
    refine iteN (fun z => hn (Int.ofNat.inj (V.int.inj z))) ?_
    have g1 : ¬ (¬ (t = "step" ∨ t = "turn" ∨ t = "repeat") ∨ s.n = 100) := fun z => z.elim (fun y => y hw) hn
    rw [if_neg g1] at rd
    refine ⟨fun σ' H' => ∃ r', σ' = [some (.ref p), some (.int (2 - (dep : Int))), some (.str t)] ∧ Kp p H H' ∧ H' p = some (.ins C dx (rdF a ⟨s.p, s.n, r'⟩)) ∧ H' a = some (.lst (U.map V.str)) ∧ rdW U dep s = .ok t ⟨s.p + 1, s.n + 1, r'⟩, ?_, ?_⟩
    · refine ⟨_, rfl, rfl, _, rfl, ?_⟩
      by_cases hr : t = "repeat"
      · refine iteS (by rw [hr]) ?_
        refine ⟨_, rfl, rfl, _, rfl, ?_⟩
        by_cases hd0 : dep = 0
        · refine iteS (by rw [hd0]; rfl) (iteT ?_)
          refine ⟨_, rfl, p, C, dx, _, _, rfl, e1, T.cl, T.na, rd_at _ _, _, rfl, fun d nd => ?_⟩
          exact bad (by rw [rd, if_pos ⟨hr, .inl hd0⟩]) d _ (Same.kp s1) nd
        refine iteN (fun z => hd0 (by have := V.int.inj z; omega)) ?_
        refine ⟨_, rfl, p, C, dx, _, _, rfl, e1, T.cl, T.nr, rd_repeats _ _, rfl, _, rfl, ?_⟩
        by_cases hr5 : s.r = 5
        · refine iteS (by rw [hr5]; rfl) ?_
          refine ⟨_, rfl, p, C, dx, _, _, rfl, e1, T.cl, T.na, rd_at _ _, _, rfl, fun d nd => ?_⟩
          exact bad (by rw [rd, if_pos ⟨hr, .inr hr5⟩]) d _ (Same.kp s1) nd
        refine iteN (fun z => hr5 (by have := V.int.inj z; omega)) ?_
        refine ⟨_, rfl, p, C, dx, _, _, rfl, e1, T.cl, T.nr, rd_repeats _ _, _, _, rfl, rfl, _, _, e1, (by show 4 < 1000; decide), ?_⟩
        refine ⟨s.r + 1, rfl, fun b o hb z => by rw [upd_ne hb]; exact s1 _ _ z, ?_, ?_, ?_⟩
        · rw [upd_same]
          exact congrArg (fun l => some (HO.ins C dx l)) (rd_put_r a s (s.r + 1))
        · rw [upd_ne R.ne.symm]
          exact s1 _ _ R.tk
        · rw [rd, if_neg (fun z => z.2.elim hd0 hr5), if_pos hr]
      · refine iteN (fun z => hr (V.str.inj z)) ?_
        refine ⟨s.r, rfl, fun b o hb z => s1 _ _ z, e1, s1 _ _ R.tk, ?_⟩
        rw [rd, if_neg (fun z => hr z.1), if_neg hr]
    · rintro σ' H' ⟨r', rfl, k2, e2, eT, rd2⟩
      refine ⟨_, rfl, p, C, dx, _, _, rfl, e2, T.cl, T.ni, rd_instructions _ _, _, _, rfl, rfl, _, _, e2, (by show 4 < 1000; decide), ?_⟩
      have hat : (putF "instructions" (V.int ((s.n : Int) + 1)) (rdF a ⟨s.p, s.n, r'⟩)).lookup ("at" : Str) = some (.int (s.p : Int)) := (congrArg (List.lookup ("at" : Str)) (rd_put_n a ⟨s.p, s.n, r'⟩ (s.n + 1))).trans (rd_at _ _)
      have hlen : (putF "instructions" (V.int ((s.n : Int) + 1)) (rdF a ⟨s.p, s.n, r'⟩)).length < 1000 := Nat.lt_of_le_of_lt (length_putF _ _ _) (by show 5 < 1000; decide)
      refine ⟨_, rfl, p, C, dx, _, _, rfl, upd_same, T.cl, T.na, hat, _, _, rfl, rfl, _, _, upd_same, hlen, ?_⟩
      refine ⟨_, rfl, k t ⟨s.p + 1, s.n + 1, r'⟩ _ rd2 (fun b o hb z => by rw [upd_ne hb, upd_ne hb]; exact k2 b o hb z) ?_⟩
      refine ⟨⟨dx, ?_⟩, ?_, ?_, ?_, R.big⟩
      · rw [upd_same]
        have z1 : putF "instructions" (.int ((s.n : Int) + 1)) (rdF a ⟨s.p, s.n, r'⟩) = rdF a ⟨s.p, s.n + 1, r'⟩ := rd_put_n a ⟨s.p, s.n, r'⟩ (s.n + 1)
        have z2 : putF "at" (.int ((s.p : Int) + 1)) (rdF a ⟨s.p, s.n + 1, r'⟩) = rdF a ⟨s.p + 1, s.n + 1, r'⟩ := rd_put_at a ⟨s.p, s.n + 1, r'⟩ (s.p + 1)
        exact congrArg (fun l => some (HO.ins C dx l)) ((congrArg (putF "at" (.int ((s.p : Int) + 1))) z1).trans z2)
      · rw [upd_ne R.ne.symm, upd_ne R.ne.symm]
        exact eT
      · exact (List.getElem?_eq_some_iff.mp ht).1
      · have := R.few
        show s.n + 1 ≤ 100
        omega
theorem sc_Reader_read_count : FnScope ["self", "least", "count"] ["self", "least"] (defScope s_Reader_read_count) := ⟨rfl, rfl, rfl, by decide +kernel, rfl, by decide +kernel, by decide +kernel⟩
/-- the reader goes on by one token -/
theorem Rdr.on {C p a dx : Addr} {H : Hp} {U : List Str} {s : RS} (R : Rdr C H p a U s) (e : H p = some (.ins C dx (rdF a s))) (lt : s.p < U.length) : Rdr C (upd H p (.ins C dx (putF "at" (.int ((s.p : Int) + 1)) (rdF a s)))) p a U ⟨s.p + 1, s.n, s.r⟩ := by
  refine ⟨⟨dx, ?_⟩, ?_, lt, R.few, R.big⟩
  · rw [upd_same]
    exact congrArg (fun l => some (HO.ins C dx l)) (rd_put_at a s (s.p + 1))
  · rw [upd_ne R.ne.symm]
    exact R.tk
theorem kp_upd {p : Addr} {H : Hp} {o : HO} : Kp p H (upd H p o) := fun b o hb z => by
  rw [upd_ne hb]
  exact z
theorem ok_Reader_read_count {f C CI : Addr} {fd : FuncData} (F : Fun K "read_count" "Reader.read_count" s_Reader_read_count f fd) (B : Blt mg) (T : ClR K mg C) (Z : TxtF P w K mg base CI)
    (M_token : MetC (L2.CX P w) P w K mg base C 3 "token" (sp_token C CI)) (C_count_of : Cal P w K mg base 3 "count_of" sp_count_of) : FnOk P w K mg base (L2.CX P w) 4 f fd ["self", "least"] (sp_read_count C CI) := by
  refine F.okX sc_Reader_read_count (fun vs H Q E h => ?_) (fun cdv A outer s H vs Q E hr h => ?_)
  · obtain ⟨p, a, T, s, m, rfl, _⟩ := h
    rfl
  · obtain ⟨p, a, U, s, m, rfl, R, hsh, k, kx⟩ := h
    obtain ⟨dx, e⟩ := R.ob
    have nd := sc_Reader_read_count.nd
    have tk := takes_of (X := cxOf (L2.CX P w) P w K mg base ["self", "least", "count"] "Reader.read_count" (defScope s_Reader_read_count) f cdv A outer ‹Shared› H E) rfl rfl rfl rfl
    refine ⟨_, (pss_cons (ps_set (i := 2) nd rfl (.inl rfl) (pe_c C_count_of hr (by decide) (by rfl) (pa_cons (pe_meth0 (pv 0) T.cl M_token.hm M_token.ok (hr.mono (by decide)) M_token.b .nil (passes_call tk (fun _ _ _ _ z => z))) pa_nil)))
    (pss_cons (ps_if (PW.pt (pw_or (pt_cmpR op_isN (pv 2) pe_non (nomark _)) (pw_or1 (pt_cmpR op_lt (pv 2) (pv 1) (nomark _)))))
      (pss_one (ps_raiseF Z rfl tk hr (by decide) (by rfl) (pa_cons (pe_fld (pv 0) rfl) pa_nil)))
      pss_nil)
    (pss_cons (ps_fldaug (pv 0) pe_int in_add)
    (pss_one (ps_ret (pv 2)))))), ?_⟩
    refine ⟨_, rfl, p, dx, _, rfl, e, rd_no _ _ (by decide +kernel), p, a, U, s, rfl, R, fun t ht => ?_, fun hn => ?_⟩
    rotate_left
    · exact kx s.p (by unfold rdC; rw [hn])
    have lt := (List.getElem?_eq_some_iff.mp ht).1
    refine ⟨t, rfl, hsh t (List.mem_of_getElem? ht), fun H1 s1 => ?_⟩
    have R1 := R.same s1
    have e1 := s1 _ _ e
    have rd : rdC U m s = (match ctOf t with | none => .bad s.p | some c => if c < m then .bad s.p else .ok c ⟨s.p + 1, s.n, s.r⟩) := by
      unfold rdC
      rw [ht] <;> rfl
    have no : rdC U m s = .bad s.p → _ := fun z => kx _ z
    cases ec : ctOf t with
    | none =>
      rw [ec] at rd
      refine ⟨_, rfl, rfl, _, rfl, iteS rfl (iteT ?_)⟩
      refine ⟨_, rfl, p, C, dx, _, _, rfl, e1, T.cl, T.na, rd_at _ _, _, rfl, fun d nd => ?_⟩
      exact no rd d _ (Same.kp s1) nd
    | some c =>
      rw [ec] at rd
      dsimp only at rd
      refine ⟨_, rfl, rfl, _, rfl, iteN (by intro z; cases z) ?_⟩
      refine ⟨_, rfl, _, rfl, _, _, rfl, rfl, _, rfl, ite2 (fun low => ?_) fun high => ?_⟩
      · refine ⟨_, rfl, p, C, dx, _, _, rfl, e1, T.cl, T.na, rd_at _ _, _, rfl, fun d nd => ?_⟩
        rw [if_pos (of_decide_eq_true low)] at rd
        exact no rd d _ (Same.kp s1) nd
      · rw [if_neg (fun z => high (decide_eq_true z))] at rd
        refine ⟨_, rfl, p, C, dx, _, _, rfl, e1, T.cl, T.na, rd_at _ _, _, _, rfl, rfl, _, _, e1, (by show 4 < 1000; decide), ?_⟩
        exact ⟨_, rfl, k c _ _ rd ((Same.kp s1).trans kp_upd) (R1.on e1 lt)⟩
theorem sc_Reader_read_bracket : FnScope ["self"] ["self"] (defScope s_Reader_read_bracket) := ⟨rfl, rfl, rfl, by decide +kernel, rfl, by decide +kernel, by decide +kernel⟩
theorem ok_Reader_read_bracket {f C CI : Addr} {fd : FuncData} (F : Fun K "read_bracket" "Reader.read_bracket" s_Reader_read_bracket f fd) (B : Blt mg) (T : ClR K mg C) (Z : TxtF P w K mg base CI)
    (M_token : MetC (L2.CX P w) P w K mg base C 3 "token" (sp_token C CI)) : FnOk P w K mg base (L2.CX P w) 4 f fd ["self"] (sp_read_bracket C CI) := by
  refine F.okX sc_Reader_read_bracket (fun vs H Q E h => ?_) (fun cdv A outer s H vs Q E hr h => ?_)
  · obtain ⟨p, a, T, s, rfl, _⟩ := h
    rfl
  · obtain ⟨p, a, U, s, rfl, R, k, kx⟩ := h
    obtain ⟨dx, e⟩ := R.ob
    have tk := takes_of (X := cxOf (L2.CX P w) P w K mg base ["self"] "Reader.read_bracket" (defScope s_Reader_read_bracket) f cdv A outer ‹Shared› H E) rfl rfl rfl rfl
    refine ⟨_, (pss_cons (ps_if (pt_cmpR op_ne (pe_meth0 (pv 0) T.cl M_token.hm M_token.ok (hr.mono (by decide)) M_token.b .nil (passes_call tk (fun _ _ _ _ z => z))) pe_str (nomark _))
      (pss_one (ps_raiseF Z rfl tk hr (by decide) (by rfl) (pa_cons (pe_fld (pv 0) rfl) pa_nil)))
      pss_nil)
    (pss_one (ps_fldaug (pv 0) pe_int in_add))), ?_⟩
    refine ⟨_, rfl, p, dx, _, rfl, e, rd_no _ _ (by decide +kernel), p, a, U, s, rfl, R, fun t ht => ?_, fun hn => ?_⟩
    rotate_left
    · exact kx s.p (by unfold rdB; rw [hn])
    have lt := (List.getElem?_eq_some_iff.mp ht).1
    have rd : rdB U s = (if t = "[" then .ok () ⟨s.p + 1, s.n, s.r⟩ else .bad s.p) := by
      unfold rdB
      rw [ht] <;> rfl
    refine ⟨rfl, _, rfl, ?_⟩
    by_cases q : t = "["
    · refine iteNS (by rw [q]) ?_
      rw [if_pos q] at rd
      refine ⟨_, rfl, p, C, dx, _, _, rfl, e, T.cl, T.na, rd_at _ _, _, _, rfl, rfl, _, _, e, (by show 4 < 1000; decide), ?_⟩
      exact k _ _ _ rd kp_upd (R.on e lt)
    · refine iteNN (fun z => q (V.str.inj z)) ?_
      rw [if_neg q] at rd
      refine ⟨_, rfl, p, C, dx, _, _, rfl, e, T.cl, T.na, rd_at _ _, _, rfl, fun d nd => ?_⟩
      exact kx _ rd d _ (Kp.refl _ _) nd
theorem sc_Reader_read_instruction : FnScope ["self", "depth", "word", "count", "inner"] ["self", "depth"] (defScope s_Reader_read_instruction) := ⟨rfl, rfl, rfl, by decide +kernel, rfl, by decide +kernel, by decide +kernel⟩
theorem ok_Reader_read_instruction (k : Nat) {C CI : Addr} (M_read_instruction : MetC (L2.CX P w) P w K mg base C (k + 5) "read_instruction" (sp_read_instruction K C CI k)) {f : Addr} {fd : FuncData} (F : Fun K "read_instruction" "Reader.read_instruction" s_Reader_read_instruction f fd) (B : Blt mg) (T : ClR K mg C) (Z : TxtF P w K mg base CI)
    {tl : Tok} (G_GREATEST_COUNT : mg "GREATEST_COUNT" = some (.int 1000000000000000000000000000000 tl)) (M_token : MetC (L2.CX P w) P w K mg base C 3 "token" (sp_token C CI)) (M_read_word : MetC (L2.CX P w) P w K mg base C 4 "read_word" (sp_read_word C CI)) (M_read_count : MetC (L2.CX P w) P w K mg base C 4 "read_count" (sp_read_count C CI)) (M_read_bracket : MetC (L2.CX P w) P w K mg base C 4 "read_bracket" (sp_read_bracket C CI)) :
    FnOk P w K mg base (L2.CX P w) (k + 5 + 1) f fd ["self", "depth"] (sp_read_instruction K C CI (k + 1)) := by
  refine F.okX sc_Reader_read_instruction (fun vs H Q E h => ?_) (fun cdv A outer s H vs Q E hr h => ?_)
  · obtain ⟨p, a, T, s, rfl, _⟩ := h
    rfl
  · obtain ⟨p, a, U, s, rfl, _, hk, R, hsh, q, qx⟩ := h
    obtain ⟨dx, e⟩ := R.ob
    have nd := sc_Reader_read_instruction.nd
    have tk := takes_of (X := cxOf (L2.CX P w) P w K mg base ["self", "depth", "word", "count", "inner"] "Reader.read_instruction" (defScope s_Reader_read_instruction) f cdv A outer ‹Shared› H E) rfl rfl rfl rfl
    refine ⟨_, (pss_cons (ps_set (i := 2) nd rfl (.inl rfl) (pe_meth (pv 0) T.cl M_read_word.hm M_read_word.ok (hr.mono (by omega)) M_read_word.b .nil (passes_call tk (fun _ _ _ _ z => z)) (pa_cons (pv 1) pa_nil)))
    (pss_cons (ps_if (pt_cmpR op_ne (pv 2) pe_str (nomark _))
      (pss_one (ps_ret (pe_tup (pa_cons (pv 2) (pa_cons (pe_meth (pv 0) T.cl M_read_count.hm M_read_count.ok (hr.mono (by omega)) M_read_count.b .nil (passes_call tk (fun _ _ _ _ z => z)) (pa_cons (pe_un un_neg (pe_glob (v := .int 1000000000000000000000000000000) rfl G_GREATEST_COUNT ⟨_, rfl⟩)) pa_nil)) pa_nil)))))
      pss_nil)
    (pss_cons (ps_set (i := 3) nd rfl (.inl rfl) (pe_meth (pv 0) T.cl M_read_count.hm M_read_count.ok (hr.mono (by omega)) M_read_count.b .nil (passes_call tk (fun _ _ _ _ z => z)) (pa_cons pe_int pa_nil)))
    (pss_cons (ps_expr (pe_meth0 (pv 0) T.cl M_read_bracket.hm M_read_bracket.ok (hr.mono (by omega)) M_read_bracket.b .nil (passes_call tk (fun _ _ _ _ z => z))))
    (pss_cons (ps_set (i := 4) nd rfl (.inl rfl) (pe_lst pa_nil))
    (pss_cons (ps_while (passes_of rfl) (pt_cmpR op_ne (pe_meth0 (pv 0) T.cl M_token.hm M_token.ok (hr.mono (by omega)) M_token.b .nil (passes_call tk (fun _ _ _ _ z => z))) pe_str (nomark _))
      (pss_one (ps_expr (pe_bm PySem.F.plainAttrs_list PySem.F.slot_list_append PySem.F.type_list_append mt_append (pv 4) (pa_cons (pe_meth (pv 0) T.cl M_read_instruction.hm M_read_instruction.ok (hr.mono (by omega)) M_read_instruction.b .nil (passes_call tk (fun _ _ _ _ z => z)) (pa_cons (pe_op op_add (pv 1) pe_int) pa_nil)) pa_nil)))))
    (pss_cons (ps_fldaug (pv 0) pe_int in_add)
    (pss_one (ps_ret (pe_tup (pa_cons (pv 2) (pa_cons (pv 3) (pa_cons (pv 4) pa_nil))))))))))))), ?_⟩
    have ed : (3 - ((k + 1 : Nat) : Int)) = 2 - (k : Int) := by omega
    have e0 : rdI U (k + 1 - 1) s = rdO U k (inn U k) s := rdI_inn U k s
    rw [e0] at q qx
    rw [ed]
    refine ⟨_, rfl, p, dx, _, rfl, e, rd_no _ _ (by decide +kernel), _, rfl, p, a, U, s, k, rfl, by omega, R, fun wd s1 H1 h1 k1 R1 => ?_, fun z hz => ?_⟩
    rotate_left
    · exact qx z (by unfold rdO; rw [hz])
    obtain ⟨a1, a2, a3, a4, a5, a6, a7⟩ := rdW_ok h1
    obtain ⟨dx1, e1⟩ := R1.ob
    refine ⟨_, rfl, rfl, _, rfl, ?_⟩
    by_cases hw : wd = "repeat"
    rotate_left
    · refine iteNN (fun z => hw (V.str.inj z)) ?_
      refine ⟨_, rfl, _, rfl, p, dx1, _, rfl, e1, rd_no _ _ (by decide +kernel), _, rfl, p, a, U, s1, _, rfl, R1, hsh, fun c s2 H2 h2 k2 R2 => ?_, fun z hz => ?_⟩
      · refine ⟨sl_of (show 2 ≤ 1000000 by decide), fun t nt => ?_⟩
        have s3 := same_new nt (o := HO.tup [V.str wd, V.int c])
        refine q (if wd = "step" then .step c else .turn c) s2 _ _ ?_ (k1.trans (k2.trans (Same.kp s3))) (R2.same s3) ?_
        · unfold rdO
          rw [h1]
          dsimp only
          rw [if_pos hw, show (-(10 ^ 30) : Int) = -1000000000000000000000000000000 from by decide, h2]
        · by_cases hs : wd = "step"
          · rw [if_pos hs]
            subst hs
            exact .step (SqT.of upd_same)
          · rw [if_neg hs]
            have ht : wd = "turn" := a5.elim (fun z => absurd z hs) fun z => z.elim id fun z => absurd z hw
            subst ht
            exact .turn (SqT.of upd_same)
      · refine BadE.kp (qx z ?_) k1
        unfold rdO
        rw [h1]
        dsimp only
        rw [if_pos hw, show (-(10 ^ 30) : Int) = -1000000000000000000000000000000 from by decide, hz]
    refine iteNS (by rw [hw]) ?_
    obtain ⟨g, rfl⟩ : ∃ g, k = g + 1 := ⟨k - 1, by have := (a7 hw).1; omega⟩
    have fork : ∀ {r : Rd Ins}, (match rdC U 0 s1 with | .bad q => Rd.bad q | .ok c s2 => match rdB U s2 with | .bad q => .bad q | .ok _ s3 => match inn U (g + 1) s3 with | .bad q => .bad q | .ok b s4 => Rd.ok (Ins.rep c b) s4) = r → rdO U (g + 1) (inn U (g + 1)) s = r := fun {r} z => by
      unfold rdO
      rw [h1]
      dsimp only
      rw [if_neg (fun y => y hw)]
      exact z
    refine ⟨_, rfl, p, dx1, _, rfl, e1, rd_no _ _ (by decide +kernel), p, a, U, s1, 0, rfl, R1, hsh, fun c s2 H2 h2 k2 R2 => ?_, fun z hz => BadE.kp (qx z (fork (by rw [hz]))) k1⟩
    obtain ⟨dx2, e2⟩ := R2.ob
    refine ⟨_, rfl, p, dx2, _, rfl, e2, rd_no _ _ (by decide +kernel), p, a, U, s2, rfl, R2, fun u s3 H3 h3 k3 R3 => ?_, fun z hz => BadE.kp (qx z (fork (by rw [h2]; dsimp only; rw [hz]))) (k1.trans k2)⟩
    obtain ⟨dx3, e3⟩ := R3.ob
    have fork2 : ∀ {r : Rd Ins}, (match rdL U (rdI U g) (U.length + 1) s3 with | .bad q => Rd.bad q | .ok b s4 => Rd.ok (Ins.rep c b) s4) = r → rdO U (g + 1) (inn U (g + 1)) s = r := fun {r} z => fork (by rw [h2]; dsimp only; rw [h3]; exact z)
    refine ⟨Nat.zero_le _, fun D nD => ?_⟩
    have sD := same_new nD (o := HO.lst [])
    have k123 : Kp p H H3 := k1.trans (k2.trans k3)
    have npD : p ≠ D := ne_of_none e3 nD
    have naD : a ≠ D := ne_of_none R3.tk nD
    have nHD : H D = none := kp_free e3 k123 nD
    have eD : (upd H3 D (.lst [])) p = some (.ins C dx3 (rdF a s3)) := sD _ _ e3
    refine ⟨fun m σ H' => ∃ s' b' ys, σ = [some (.ref p), some (.int (2 - ((g + 1 : Nat) : Int))), some (.str wd), some (.int c), some (.ref D)] ∧ Kp p (upd H3 D (.lst [])) (upd H' D (.lst [])) ∧ Rdr C H' p a U s' ∧ H' D = some (.lst ys) ∧ NwP K (upd H3 D (.lst [])) H' ys b' ∧ rdL U (rdI U g) (U.length + 1) s3 = rdCat b' (rdL U (rdI U g) m s') ∧ U.length < m + s'.p ∧ b'.length ≤ s'.p,
      ⟨U.length + 1, s3, [], [], rfl, fun b o hb z => ?_, R3.same sD, upd_same, .nil, (rdCat_nil _).symm, by omega, Nat.zero_le _⟩, ?_⟩
    · by_cases y : b = D
      · subst y
        rw [upd_same] at z ⊢
        exact z
      · rw [upd_ne y] at z ⊢
        rw [upd_ne y]
        exact z
    rintro m σ H' ⟨s', b', ys, rfl, kD, R', hD', hN, hL, hm, hb'⟩
    obtain ⟨dx', e'⟩ := R'.ob
    obtain ⟨m, rfl⟩ : ∃ z, m = z + 1 := ⟨m - 1, by have := R'.le; omega⟩
    have kH : Kp p H H' := fun b o hb z => by
      have nb : b ≠ D := ne_of_none z nHD
      have := kD b o hb (by rw [upd_ne nb]; exact k123 b o hb z)
      rwa [upd_ne nb] at this
    refine ⟨_, rfl, p, dx', _, rfl, e', rd_no _ _ (by decide +kernel), p, a, U, s', rfl, R', fun t ht => ?_, fun hn => ?_⟩
    rotate_left
    · refine BadE.kp (qx s'.p (fork2 ?_)) kH
      rw [hL, rdL_none hn]
      rfl
    refine ⟨rfl, _, rfl, ?_⟩
    by_cases hend : t = "]"
    · refine iteNS (by rw [hend]) ?_
      subst hend
      have lt := (List.getElem?_eq_some_iff.mp ht).1
      refine ⟨_, rfl, p, C, dx', _, _, rfl, e', T.cl, T.na, rd_at _ _, _, _, rfl, rfl, _, _, e', (by show 4 < 1000; decide), ?_⟩
      have RE := R'.on e' lt
      refine ⟨_, rfl, _, rfl, _, rfl, sl_of (show 3 ≤ 1000000 by decide), fun tt ntt => ?_⟩
      have s9 := same_new ntt (o := HO.tup [V.str wd, V.int c, V.ref D])
      have hDe : upd H' p (.ins C dx' (putF "at" (.int ((s'.p : Int) + 1)) (rdF a s'))) D = some (.lst ys) := by
        rw [upd_ne npD.symm]
        exact hD'
      have kE : Kp p H' (upd H' p (.ins C dx' (putF "at" (.int ((s'.p : Int) + 1)) (rdF a s')))) := kp_upd
      have tE := kp_tpI e' kE
      refine q (.rep c b') ⟨s'.p + 1, s'.n, s'.r⟩ _ _ (fork2 ?_) (kH.trans (kE.trans (Same.kp s9))) (RE.same s9) ?_
      · rw [hL, rdL_end ht]
        show (match Rd.ok (b' ++ []) _ with | .bad q => Rd.bad q | .ok b s4 => Rd.ok (Ins.rep c b) s4) = _
        rw [List.append_nil]
      · subst hw
        refine .rep (SqT.of upd_same) nHD (s9 _ _ hDe) (NwP.same s9 (NwP.less (H0 := upd H3 D (.lst [])) (fun x n => ?_) (hN.stay (fun _ _ g => tp_t tE g) fun L xs n z => ?_)))
        · have nx : x ≠ D := fun z => by
            rw [z, upd_same] at n
            cases n
          rw [upd_ne nx] at n
          exact kp_free e3 k123 n
        · rw [upd_ne (ne_of z e' (by intro y; cases y))]
          exact z
    · refine iteNN (fun z => hend (V.str.inj z)) ?_
      refine ⟨fun σ' H'' => ∃ m', m' < m + 1 ∧ ∃ s' b' ys, σ' = [some (.ref p), some (.int (2 - ((g + 1 : Nat) : Int))), some (.str wd), some (.int c), some (.ref D)] ∧ Kp p (upd H3 D (.lst [])) (upd H'' D (.lst [])) ∧ Rdr C H'' p a U s' ∧ H'' D = some (.lst ys) ∧ NwP K (upd H3 D (.lst [])) H'' ys b' ∧ rdL U (rdI U g) (U.length + 1) s3 = rdCat b' (rdL U (rdI U g) m' s') ∧ U.length < m' + s'.p ∧ b'.length ≤ s'.p, fun _ _ z => z, ?_⟩
      refine ⟨_, rfl, .inl ⟨rfl, _, SqL.of hD'⟩, _, rfl, p, dx', _, rfl, e', rd_no _ _ (by decide +kernel), _, rfl, _, _, rfl, rfl, p, a, U, s', ?_, by omega, by omega, R', hsh, fun i s2' v H2' hi k2' R2' hv => ?_, fun z hz => ?_⟩
      · show [V.ref p, V.int (2 - ((g + 1 : Nat) : Int) + 1)] = [V.ref p, V.int (3 - ((g + 1 : Nat) : Int))]
        rw [show (2 - ((g + 1 : Nat) : Int) + 1) = 3 - ((g + 1 : Nat) : Int) from by omega]
      · obtain ⟨dx4, e4⟩ := R2'.ob
        have hD2 : H2' D = some (.lst ys) := k2' _ _ npD.symm hD'
        have G := (rdI_ok R'.few hi).1
        have yl := hN.len
        have Gp := G.p
        have Gq := G.q
        have big := R.big
        refine ⟨D, ys, v, rfl, rfl, hD2, sl_lt (by omega), ?_⟩
        have t4 : Tp H' H2' := kp_tpI e' k2'
        have t5 : Tp H2' (upd H2' D (.lst (ys ++ [v]))) := tp_lst hD2
        refine ⟨m, Nat.lt_succ_self _, s2', b' ++ [i], ys ++ [v], rfl, fun b o hb z => ?_, ⟨⟨dx4, by rw [upd_ne npD]; exact e4⟩, by rw [upd_ne naD]; exact R2'.tk, R2'.le, R2'.few, R2'.big⟩, upd_same, ?_, ?_, by omega, by rw [List.length_append, List.length_singleton]; omega⟩
        · have := kD b o hb z
          by_cases y : b = D
          · subst y
            rw [upd_same] at this ⊢
            exact this
          · rw [upd_ne y] at this
            rw [upd_ne y, upd_ne y]
            exact k2' b o hb this
        · have keep : ∀ L xs, (upd H3 D (.lst [])) L = none → H2' L = some (.lst xs) → upd H2' D (.lst (ys ++ [v])) L = some (.lst xs) := fun L xs n z => by
            have nL : L ≠ D := fun y => by
              rw [y, upd_same] at n
              cases n
            rw [upd_ne nL]
            exact z
          refine NwP.app (hN.stay (fun _ _ g => tp_t (t4.trans t5) g) fun L xs n z => keep L xs n (k2' _ _ (ne_of z e' (by intro y; cases y)) z)) (.cons ?_ .nil)
          have freeD : ∀ x, H' x = none → (upd H3 D (.lst [])) x = none := fun x n => by
            have nx : x ≠ D := fun z => by
              rw [z, hD'] at n
              cases n
            cases hh : (upd H3 D (.lst [])) x with
            | none => rfl
            | some o =>
              have npx : x ≠ p := fun z => by
                rw [z, e'] at n
                cases n
              have := kD x o npx hh
              rw [upd_ne nx, n] at this
              cases this
          exact (NwI.less freeD hv).stay (fun _ _ g => tp_t t5 g) keep
        · have hi' : rdI U g s' = .ok i s2' := hi
          rw [hL, rdL_more ht hend hi', rdCat_cat]
      · refine BadE.kp (qx z (fork2 ?_)) kH
        have hz' : rdI U g s' = .bad z := hz
        rw [hL, rdL_bad ht hend hz']
        rfl
theorem no_attr {C : Addr} {f : Str} (h : PySem.W.findIn K (.ref C) f = some none) : NoAttr K C f := h
theorem sc_InvalidText___init__ : FnScope ["self", "position"] ["self", "position"] (defScope s_InvalidText___init__) := ⟨rfl, rfl, rfl, by decide +kernel, rfl, by decide +kernel, by decide +kernel⟩
theorem ok_InvalidText___init__ {f : Addr} {fd : FuncData} {C : Addr} (F : Fun K "__init__" "InvalidText.__init__" s_InvalidText___init__ f fd) (T : Over K "ValueError" "ValueError.__new__" "ValueError.__init__" [.type "ValueError", .type "Exception", .type "BaseException", .type "object"] C) (hno : PySem.W.findIn K (.ref C) "position" = some none) : FnOk P w K mg base CX0 1 f fd ["self", "position"] (sp_first C "position") := by
  refine F.ok sc_InvalidText___init__ (fun vs H Q E h => ?_) (fun cdv A outer s H vs Q E hr h => ?_)
  · obtain ⟨a, v, rfl, _⟩ := h
    rfl
  · obtain ⟨a, v, rfl, ea, k⟩ := h
    exact ⟨_, pss_one (ps_first (pv 0) (pv 1)), _, rfl, _, rfl, a, C, rfl, T, hno, ea, k⟩
/-- what the written part says of InvalidText -/
structure TxRaw (K : PySem.W.Frag) (mg : Str → Option Value) (C : Addr) : Prop where
  gl : mg "InvalidText" = some (.ref C)
  ov : Over K "ValueError" "ValueError.__new__" "ValueError.__init__" [.type "ValueError", .type "Exception", .type "BaseException", .type "object"] C
  no : PySem.W.findIn K (.ref C) "position" = some none
  ex : ∃ fI fd, PySem.W.findIn K (.ref C) "__init__" = some (some (.ref fI)) ∧ PySem.W.typeIn K (.ref fI) = some (.type "function") ∧ Fun K "__init__" "InvalidText.__init__" s_InvalidText___init__ fI fd
theorem tx_of {C : Addr} (Z : TxRaw K mg C) : TxtF P w K mg base C := ⟨Z.ov, Z.gl, Z.no, by
  obtain ⟨fI, fd, h1, h2, F⟩ := Z.ex
  exact ⟨fI, fd, ["self", "position"], h1, h2, ok_InvalidText___init__ F Z.ov Z.no, F.binds fun _ _ _ _ _ _ us hl => match us, hl with | [_, _], _ => rfl⟩⟩
/-- what it says of Reader -/
structure RdRaw (K : PySem.W.Frag) (mg : Str → Option Value) (C : Addr) : Prop where
  cl : ClR K mg C
  mkr : ∃ f fd, Mk K C f ∧ Fun K "__init__" "Reader.__init__" s_Reader___init__ f fd
  d1 : DfM K C "has_ended" "Reader.has_ended" s_Reader_has_ended
  d2 : DfM K C "token" "Reader.token" s_Reader_token
  d3 : DfM K C "read_word" "Reader.read_word" s_Reader_read_word
  d4 : DfM K C "read_count" "Reader.read_count" s_Reader_read_count
  d5 : DfM K C "read_bracket" "Reader.read_bracket" s_Reader_read_bracket
  d6 : DfM K C "read_instruction" "Reader.read_instruction" s_Reader_read_instruction
theorem mkR_of {C : Addr} (R : RdRaw K mg C) : MkF P w K mg base "Reader" C 1 (sp_reader C) := ⟨by
  obtain ⟨f, fd, M, F⟩ := R.mkr
  exact ⟨f, fd, ["self", "tokens"], M, ok_Reader___init__ F R.cl, F.binds fun _ _ _ _ _ _ us hl => match us, hl with | [_, _], _ => rfl⟩, R.cl.gl⟩
theorem ok__law_pickS {f : Addr} {fd : FuncData} (F : Fun K "_law_pick" "_law_pick" s__law_pick f fd) (B : Blt mg) (C__law_draw : Cal P w K mg base 1 "_law_draw" sp__law_draw) : FnOk P w K mg base CX0 2 f fd ["_law_pen_here", "_law_options"] sp__law_pickS := by
  have sc : FnScope ["_law_pen_here", "_law_options"] ["_law_pen_here", "_law_options"] (defScope s__law_pick) := ⟨rfl, rfl, rfl, by decide +kernel, rfl, by decide +kernel, by decide +kernel⟩
  refine F.ok sc (fun vs H Q E h => ?_) (fun cdv A outer s H vs Q E hr h => ?_)
  · obtain ⟨p, c, z, n, rfl, _⟩ := h
    rfl
  · obtain ⟨p, c, z, n, rfl, pen, hn, hz, hz2, k⟩ := h
    have nd := sc.nd
    refine ⟨_, (pss_one (ps_ret (pe_ix ix_str (pv 1) (pe_c C__law_draw hr (by decide) (by rfl) (pa_cons (pv 0) (pa_cons (pe_callB call_len_str (by rfl) B.len (by decide +kernel) (pa_cons (pv 1) pa_nil)) pa_nil))) (fun _ _ => rfl)))), ?_⟩
    refine ⟨_, rfl, _, rfl, _, rfl, z, rfl, sl_of (by omega), p, c, (z.length : Int), n, rfl, by omega, ?_, pen, hn, fun r H1 h0 h9 kp pen1 => ?_⟩
    · exact Nat.lt_of_le_of_lt (show ((z.length : Int)).natAbs ≤ 100000 by omega) (by decide)
    · obtain ⟨j, rfl⟩ : ∃ j : Nat, r = (j : Int) := ⟨r.toNat, by omega⟩
      have hj : j < (TL.tl z).length := by rw [← TL.len_tl]; omega
      refine ⟨z, (j : Int), (TL.tl z)[j], rfl, rfl, sl_of (by omega), atI_nat (List.getElem?_eq_getElem hj), ?_⟩
      exact k _ _ (List.getElem_mem hj) kp pen1
theorem sc_is_whole : FnScope ["value"] ["value"] (defScope s_is_whole) := ⟨rfl, rfl, rfl, by decide +kernel, rfl, by decide +kernel, by decide +kernel⟩
theorem ok_is_whole {f : Addr} {fd : FuncData} (F : Fun K "is_whole" "is_whole" s_is_whole f fd) (B : Blt mg) : FnOk P w K mg base CX0 1 f fd ["value"] (sp_is_whole K) := by
  refine F.ok sc_is_whole (fun vs H Q E h => ?_) (fun cdv A outer s H vs Q E hr h => ?_)
  · obtain ⟨v, d, rfl, _⟩ := h
    rfl
  · obtain ⟨v, d, rfl, hd, k⟩ := h
    refine ⟨_, (pss_one (ps_ret (pe_and (pe_callB call_isi (by rfl) B.isinstance (by decide +kernel) (pa_cons (pv 0) (pa_cons (pe_bltn (v := .ty "int") (u := .type "int") (by rfl) B.int (by decide +kernel) rfl) pa_nil))) (pe_one (pe_not (pe_callB call_isi (by rfl) B.isinstance (by decide +kernel) (pa_cons (pv 0) (pa_cons (pe_bltn (v := .ty "bool") (u := .type "bool") (by rfl) B.bool (by decide +kernel) rfl) pa_nil)))))))), ?_⟩
    refine ⟨_, rfl, v, .ty "int", _, _, _, rfl, .ty "int", DpX.ty hd, kit_int d, _, rfl, ?_⟩
    refine ite2 (fun h => ?_) (fun h => ?_)
    · refine ⟨_, rfl, v, .ty "bool", _, _, _, rfl, .ty "bool", DpX.ty hd, kit_bool d, _, rfl, ?_⟩
      have e : (!isBool d) = isWhole d := by
        cases d <;> first | rfl | cases h
      rw [e]
      exact k
    · have e : isWhole d = false := by
        cases d <;> first | rfl | exact absurd rfl h
      rw [e] at k
      exact k
theorem sc_is_count : FnScope ["value"] ["value"] (defScope s_is_count) := ⟨rfl, rfl, rfl, by decide +kernel, rfl, by decide +kernel, by decide +kernel⟩
theorem ok_is_count {f : Addr} {fd : FuncData} (F : Fun K "is_count" "is_count" s_is_count f fd) (B : Blt mg) {tk : Tok} (G_GREATEST_COUNT : mg "GREATEST_COUNT" = some (.int 1000000000000000000000000000000 tk)) (C_is_whole : Cal P w K mg base 1 "is_whole" (sp_is_whole K)) : FnOk P w K mg base CX0 2 f fd ["value"] sp_is_countZ := by
  refine F.ok sc_is_count (fun vs H Q E h => ?_) (fun cdv A outer s H vs Q E hr h => ?_)
  · obtain ⟨z, rfl, _⟩ := h
    rfl
  · obtain ⟨z, rfl, k⟩ := h
    have nd := sc_is_count.nd
    refine ⟨_, (pss_one (ps_ret (pe_and (pe_c C_is_whole hr (by decide) (by rfl) (pa_cons (pv 0) pa_nil)) (pe_one (pe_cmpR op_le (pe_callB call_abs (by rfl) B.abs (by decide +kernel) (pa_cons (pv 0) pa_nil)) (pe_glob (v := .int 1000000000000000000000000000000) rfl G_GREATEST_COUNT ⟨_, rfl⟩) (nomark _)))))), ?_⟩
    refine ⟨_, rfl, .int z, .int z, rfl, .inl (.int z), _, rfl, ?_⟩
    refine (if_pos (show isWhole (.int z) = true from rfl)).mpr ?_
    refine ⟨_, rfl, z, rfl, _, _, rfl, rfl, ?_⟩
    have e : decide (z.natAbs ≤ 10 ^ 30) = decide ((if z < 0 then -z else z) ≤ 1000000000000000000000000000000) := by
      rw [decide_eq_decide, show (10 : Nat) ^ 30 = 1000000000000000000000000000000 from by decide]
      split <;> omega
    rw [e] at k
    exact k
theorem sc_count_of : FnScope ["token", "digits", "count", "sign"] ["token"] (defScope s_count_of) := ⟨rfl, rfl, rfl, by decide +kernel, rfl, by decide +kernel, by decide +kernel⟩
theorem ok_count_of {f : Addr} {fd : FuncData} (F : Fun K "count_of" "count_of" s_count_of f fd) (B : Blt mg) {t1 t2 : Tok} (G_DIGITS : mg "DIGITS" = some (.str "0123456789" t1)) (G_LONGEST_NUMBER : mg "LONGEST_NUMBER" = some (.int 31 t2)) (C_is_count : Cal P w K mg base 2 "is_count" sp_is_countZ) : FnOk P w K mg base CX0 3 f fd ["token"] sp_count_of := by
  refine F.ok sc_count_of (fun vs H Q E h => ?_) (fun cdv A outer s H vs Q E hr h => ?_)
  · obtain ⟨t, rfl, _⟩ := h
    rfl
  · obtain ⟨t, rfl, hl, k⟩ := h
    have nd := sc_count_of.nd
    refine ⟨_, (pss_cons (ps_set (i := 1) nd rfl (.inl rfl) (pe_m1 PySem.F.slot_str_removeprefix PySem.F.type_str_removeprefix mt_removeprefix (pv 0) pe_str))
    (pss_cons (ps_if (PW.pt (pw_or (pt_not (pt_truth (pv 1) (by intro _; rfl))) (pw_or1 (pt_not (pt_val (pe_callB (cr_all rfl) (by rfl) B.all (by decide +kernel) (pa_cons (pe_lc (own := [("sign", 3)]) (by rfl) nd (pi_str (pv 1)) (blkOk_by (N := ["token", "digits", "count", "sign"]) (sc := defScope s_count_of) (own := [("sign", 3)]) (by decide +kernel)) (fun _ _ _ _ _ => (pg_name (i := 3) nd rfl (.inl rfl))) (fun _ _ _ _ _ => pts_nil) (fun _ _ _ _ _ => (pe_cmpR op_in_sign (pv 3) (pe_glob (v := .str "0123456789") rfl G_DIGITS ⟨_, rfl⟩) rfl))) pa_nil)))))))
      (pss_one (ps_ret pe_non))
      pss_nil)
    (pss_cons (ps_cut (ps_if (PW.pt (pw_and (pt_val (pe_m1 PySem.F.slot_str_startswith PySem.F.type_str_startswith mt_startswith (pv 1) pe_str)) (pw_and1 (pt_cmpR op_ne (pv 0) pe_str (nomark _)))))
      (pss_one (ps_ret pe_non))
      pss_nil))
    (pss_cons (ps_if (pt_cmpR op_gt (pe_callB call_len_str (by rfl) B.len (by decide +kernel) (pa_cons (pv 1) pa_nil)) (pe_glob (v := .int 31) rfl G_LONGEST_NUMBER ⟨_, rfl⟩) (nomark _))
      (pss_one (ps_ret pe_non))
      pss_nil)
    (pss_cons (ps_set (i := 2) nd rfl (.inl rfl) (pe_callTy call_int_str (by rfl) B.int (by decide +kernel) (pa_cons (pv 0) pa_nil)))
    (pss_one (ps_ret (pe_ifExp (pt_val (pe_c C_is_count hr (by decide) (by rfl) (pa_cons (pv 2) pa_nil))) (pv 2) pe_non)))))))), ?_⟩
    have hd : TL.tl (Txt.removeprefix t "-") = dgL (TL.tl t) := less_minus t
    have hdl : (Txt.removeprefix t "-").length ≤ t.length := by
      rw [TL.len_tl, TL.len_tl, hd]
      unfold dgL
      split <;> simp_all
    refine ⟨_, rfl, ⟨_, rfl⟩, t, "-", rfl, rfl, sl_of (show t.length ≤ 1000000 by omega), ?_⟩
    generalize Txt.removeprefix t "-" = d at hd hdl ⊢
    have bad : ¬ CtOk (TL.tl t) → ∀ H', Same H H' → Q .non H' := fun n H' s' => by
      have := k H' s'
      unfold ctOf at this
      rw [if_neg fun z => n z.1] at this
      exact this
    have dn : d.length = (dgL (TL.tl t)).length := by rw [TL.len_tl, hd]
    by_cases h0 : d.length = 0
    · refine ⟨_, rfl, false, ⟨sl_of (by omega), by rw [h0]; rfl⟩, ?_⟩
      refine iteT ?_
      exact bad (fun z => z.1 (List.length_eq_zero_iff.mp (dn.symm.trans h0))) _ (Same.refl _)
    refine ⟨_, rfl, true, ⟨sl_of (by omega), ?_⟩, iteF ?_⟩
    · symm
      rw [bne_iff_ne]
      omega
    dsimp only [tNot, tB, tCB, tCons]
    refine lcSign (z := d) (fun c => decide (48 ≤ c ∧ c ≤ 57)) (by omega) (fun R h => ⟨_, rfl, h⟩) (fun _ => rfl) (fun c H2 R h => ⟨_, rfl, c, _, rfl, rfl, by rw [in_digits]; exact h⟩) fun D H2 s2 nD hD => ?_
    refine ⟨D, _, rfl, SqL.of hD, _, rfl, ?_⟩
    rw [all_digits, show d.cps.toList = dgL (TL.tl t) from hd]
    by_cases h1 : ¬ NumText.AllDigits (dgL (TL.tl t))
    · rw [decide_eq_false h1]
      refine iteT ?_
      exact bad (fun z => h1 z.2.1) _ s2
    replace h1 := Decidable.not_not.mp h1
    rw [decide_eq_true h1]
    refine iteF ?_
    refine ⟨fun σ' H' => σ' = [some (.str t), some (.str d), none, none] ∧ H' = H2 ∧ ((dgL (TL.tl t)).head? = some 48 → TL.tl t = [48]), ?_, ?_⟩
    · refine ⟨_, rfl, ⟨_, rfl⟩, d, "0", rfl, rfl, _, rfl, ?_⟩
      rw [zero_first, hd]
      by_cases hz : (dgL (TL.tl t)).head? = some 48
      · refine iteS hz ?_
        have tz : TL.tl t = [48] ↔ t = "0" := ⟨fun z => TL.ext_tl (z.trans tl_zero.symm), fun z => by rw [z]; exact tl_zero⟩
        by_cases hs : t = "0"
        · refine ⟨_, rfl, rfl, _, rfl, iteNS (by rw [hs]) ?_⟩
          exact ⟨rfl, rfl, fun _ => tz.mpr hs⟩
        · refine ⟨_, rfl, rfl, _, rfl, iteNN (fun z => hs (V.str.inj z)) ?_⟩
          exact bad (fun z => hs (tz.mp (z.2.2.1 hz))) _ s2
      · refine iteN hz ?_
        exact ⟨rfl, rfl, fun z => absurd z hz⟩
    · rintro σ' H' ⟨rfl, rfl, hz⟩
      refine ⟨_, rfl, _, rfl, sl_of (by omega), _, _, rfl, rfl, _, rfl, ite2 (fun big => ?_) fun few => ?_⟩
      · have := of_decide_eq_true big
        exact bad (fun z => by have := z.2.2.2; omega) _ s2
      have few' : (dgL (TL.tl t)).length ≤ 31 := by
        have : ¬ ((31 : Int) < (d.length : Int)) := fun z => few (decide_eq_true z)
        omega
      have ok : CtOk (TL.tl t) := ⟨fun z => h0 (by rw [dn, z]; rfl), h1, hz, few'⟩
      have ci := ct_int ok
      refine ⟨_, rfl, t, _, rfl, ci.1, Nat.le_trans ci.2 (by decide), _, rfl, _, rfl, _, rfl, ?_⟩
      have fin := k _ s2
      unfold ctOf at fin
      by_cases hc : (ctW (TL.tl t)).natAbs ≤ 10 ^ 30
      · rw [if_pos ⟨ok, hc⟩] at fin
        refine iteS hc ?_
        exact ⟨_, rfl, fin⟩
      · rw [if_neg fun z => hc z.2] at fin
        exact iteN hc fin
theorem sc_parse_program : FnScope ["text", "reader", "program"] ["text"] (defScope s_parse_program) := ⟨rfl, rfl, rfl, by decide +kernel, rfl, by decide +kernel, by decide +kernel⟩
theorem ok_parse_program {C CI : Addr} {f : Addr} {fd : FuncData} (F : Fun K "parse_program" "parse_program" s_parse_program f fd) (B : Blt mg) (T : ClR K mg C) (Z : TxtF P w K mg base CI) (MK_Reader : MkF P w K mg base "Reader" C 1 (sp_reader C)) (M_has_ended : MetC CX0 P w K mg base C 1 "has_ended" (sp_has_ended C))
    (M_read_instruction : MetC (L2.CX P w) P w K mg base C (3 + 5) "read_instruction" (sp_read_instruction K C CI 3)) : FnOk P w K mg base (L2.CX P w) 9 f fd ["text"] (sp_parse_program K CI) := by
  refine F.okX sc_parse_program (fun vs H Q E h => ?_) (fun cdv A outer s H vs Q E hr h => ?_)
  · obtain ⟨t, rfl, _⟩ := h
    rfl
  · obtain ⟨t, rfl, hl, q, qx⟩ := h
    have nd := sc_parse_program.nd
    have tk := takes_of (X := cxOf (L2.CX P w) P w K mg base ["text", "reader", "program"] "parse_program" (defScope s_parse_program) f cdv A outer ‹Shared› H E) rfl rfl rfl rfl
    refine ⟨_, (pss_cons (ps_if (pt_not (pt_val (pe_callB call_isi (by rfl) B.isinstance (by decide +kernel) (pa_cons (pv 0) (pa_cons (pe_bltn (v := .ty "str") (u := .type "str") (by rfl) B.str (by decide +kernel) rfl) pa_nil)))))
      (pss_one (ps_raiseF Z rfl tk hr (by decide) (by rfl) (pa_cons pe_int pa_nil)))
      pss_nil)
    (pss_cons (ps_set (i := 1) nd rfl (.inl rfl) (pe_mk_ MK_Reader hr (by decide) (by rfl) (pa_cons (pe_cut (pe_ifExp (pt_truth (pv 0) (by intro _; rfl)) (pe_split (pv 0) pe_str) (pe_lst pa_nil))) pa_nil)))
    (pss_cons (ps_set (i := 2) nd rfl (.inl rfl) (pe_lst pa_nil))
    (pss_cons (ps_while (passes_of rfl) (pt_not (pt_val (pe_meth0 (pv 1) T.cl M_has_ended.hm M_has_ended.ok (hr.mono (by decide)) M_has_ended.b .nil (E := E0) pass0)))
      (pss_one (ps_expr (pe_bm PySem.F.plainAttrs_list PySem.F.slot_list_append PySem.F.type_list_append mt_append (pv 2) (pa_cons (pe_meth (pv 1) T.cl M_read_instruction.hm M_read_instruction.ok (hr.mono (by decide)) M_read_instruction.b .nil (passes_call tk (fun _ _ _ _ z => z)) (pa_cons pe_int pa_nil)) pa_nil)))))
    (pss_one (ps_ret (pv 2))))))), ?_⟩
    refine ⟨_, rfl, .str t, .ty "str", .type "str", .type "str", true, rfl, .ty _, .base (.str _), kit_ty (by decide +kernel), _, rfl, iteF ?_⟩
    refine ⟨fun x H' => ∃ ta, x = .ref ta ∧ Same H H' ∧ H ta = none ∧ H' ta = some (.lst ((tksOf t).map V.str)), ?_, ?_⟩
    · by_cases h0 : t.length = 0
      · refine ⟨_, rfl, false, ⟨sl_of (by omega), by rw [h0]; rfl⟩, iteF ?_⟩
        refine ⟨Nat.zero_le _, fun ta nta => ?_⟩
        refine ⟨ta, rfl, same_new nta, nta, ?_⟩
        rw [upd_same, show tksOf t = [] from if_pos h0]
        rfl
      · refine ⟨_, rfl, true, ⟨sl_of (by omega), ?_⟩, iteT ?_⟩
        · symm
          rw [bne_iff_ne]
          omega
        refine ⟨_, rfl, ⟨_, rfl⟩, t, " ", rfl, rfl, by decide +kernel, sl_of (by omega), fun ta nta => ?_⟩
        refine ⟨ta, rfl, same_new nta, nta, ?_⟩
        rw [upd_same, show tksOf t = Txt.split t " " from if_neg h0]
    rintro x H1 ⟨ta, rfl, s1, nta, eT⟩
    intro p dx np ndx nex
    have s2 : Same H1 (upd (upd H1 dx (.own p)) p (.ins C dx [])) := fun b o e => by
      rw [upd_ne (ne_of_none e np), upd_ne (ne_of_none e ndx)]
      exact e
    refine ⟨p, dx, ta, rfl, upd_same, fun H2 k2 e2 => ⟨rfl, ?_⟩⟩
    have np0 : H p = none := s1.free np
    have sH2 : Same H H2 := fun b o e => k2 b o (ne_of_none e np0) (s2 _ _ (s1 _ _ e))
    have few := tks_few t
    have hsh : ∀ u ∈ tksOf t, u.length ≤ 100000 := fun u hu => by
      have := tks_short hu
      omega
    have R2 : Rdr C H2 p ta (tksOf t) ⟨0, 0, 0⟩ := ⟨⟨dx, e2⟩, k2 _ _ (ne_of_none eT np) (s2 _ _ eT), Nat.zero_le _, Nat.zero_le _, by omega⟩
    refine ⟨Nat.zero_le _, fun D nD => ?_⟩
    have sD := same_new nD (o := HO.lst [])
    have npD : p ≠ D := ne_of_none e2 nD
    have naD : ta ≠ D := ne_of_none R2.tk nD
    have nHD : H D = none := sH2.free nD
    have badE : ∀ {H' : Hp} {z : Nat}, Kp p (upd H2 D (.lst [])) (upd H' D (.lst [])) → readT (tksOf t) = .bad z → BadE CI E p H' z := fun {H' z} kD hz d H'' kk nd => by
      refine qx z d H'' hz (fun b o e => ?_) nd
      have nb : b ≠ D := ne_of_none e nHD
      have nbp : b ≠ p := ne_of_none e np0
      have := kD b o nbp (by rw [upd_ne nb]; exact sH2 _ _ e)
      rw [upd_ne nb] at this
      exact kk b o nbp this
    refine ⟨fun m σ H' => ∃ s' b' ys, σ = [some (.str t), some (.ref p), some (.ref D)] ∧ Kp p (upd H2 D (.lst [])) (upd H' D (.lst [])) ∧ Rdr C H' p ta (tksOf t) s' ∧ H' D = some (.lst ys) ∧ NwP K (upd H2 D (.lst [])) H' ys b' ∧ readT (tksOf t) = rdCat b' (rdP (tksOf t) m s') ∧ (tksOf t).length < m + s'.p ∧ b'.length ≤ s'.p,
      ⟨(tksOf t).length + 1, ⟨0, 0, 0⟩, [], [], rfl, fun b o hb z => ?_, R2.same sD, upd_same, .nil, (rdCat_nil _).symm, by show (tksOf t).length < (tksOf t).length + 1 + 0; omega, Nat.zero_le _⟩, ?_⟩
    · by_cases y : b = D
      · subst y
        rw [upd_same] at z ⊢
        exact z
      · rw [upd_ne y] at z ⊢
        rw [upd_ne y]
        exact z
    rintro m σ H' ⟨s', b', ys, rfl, kD, R', hD', hN, hL, hm, hb'⟩
    obtain ⟨dx', e'⟩ := R'.ob
    obtain ⟨m, rfl⟩ : ∃ z, m = z + 1 := ⟨m - 1, by have := R'.le; omega⟩
    refine ⟨_, rfl, p, dx', _, rfl, e', rd_no _ _ (by decide +kernel), p, ta, tksOf t, s', rfl, R', _, rfl, ?_⟩
    by_cases hend : s'.p = (tksOf t).length
    · rw [decide_eq_true hend]
      refine iteF ?_
      refine ⟨_, rfl, q b' s' D ys H' ?_ (fun b o e => ?_) nHD hD' (NwP.less (H0 := upd H2 D (.lst [])) (fun x n => ?_) hN)⟩
      · rw [hL, rdP_end hend]
        show Rd.ok (b' ++ []) _ = _
        rw [List.append_nil]
      · have nb : b ≠ D := ne_of_none e nHD
        have := kD b o (ne_of_none e np0) (by rw [upd_ne nb]; exact sH2 _ _ e)
        rwa [upd_ne nb] at this
      · have nx : x ≠ D := fun z => by
          rw [z, upd_same] at n
          cases n
        rw [upd_ne nx] at n
        rw [upd_ne nx]
        exact sH2.free n
    · rw [decide_eq_false hend]
      refine iteT ?_
      refine ⟨fun σ' H'' => ∃ m', m' < m + 1 ∧ ∃ s' b' ys, σ' = [some (.str t), some (.ref p), some (.ref D)] ∧ Kp p (upd H2 D (.lst [])) (upd H'' D (.lst [])) ∧ Rdr C H'' p ta (tksOf t) s' ∧ H'' D = some (.lst ys) ∧ NwP K (upd H2 D (.lst [])) H'' ys b' ∧ readT (tksOf t) = rdCat b' (rdP (tksOf t) m' s') ∧ (tksOf t).length < m' + s'.p ∧ b'.length ≤ s'.p, fun _ _ z => z, ?_⟩
      refine ⟨_, rfl, .inl ⟨rfl, _, SqL.of hD'⟩, _, rfl, p, dx', _, rfl, e', rd_no _ _ (by decide +kernel), p, ta, tksOf t, s', rfl, by decide, by decide, R', hsh, fun i s2' v H2' hi k2' R2' hv => ?_, fun z hz => badE kD ?_⟩
      · obtain ⟨dx4, e4⟩ := R2'.ob
        have hD2 : H2' D = some (.lst ys) := k2' _ _ npD.symm hD'
        have G := (rdI_ok R'.few hi).1
        have yl := hN.len
        have Gp := G.p
        have Gq := G.q
        have big := R'.big
        refine ⟨D, ys, v, rfl, rfl, hD2, sl_lt (by omega), ?_⟩
        have t4 : Tp H' H2' := kp_tpI e' k2'
        have t5 : Tp H2' (upd H2' D (.lst (ys ++ [v]))) := tp_lst hD2
        refine ⟨m, Nat.lt_succ_self _, s2', b' ++ [i], ys ++ [v], rfl, fun b o hb z => ?_, ⟨⟨dx4, by rw [upd_ne npD]; exact e4⟩, by rw [upd_ne naD]; exact R2'.tk, R2'.le, R2'.few, R2'.big⟩, upd_same, ?_, ?_, by omega, by rw [List.length_append, List.length_singleton]; omega⟩
        · have := kD b o hb z
          by_cases y : b = D
          · subst y
            rw [upd_same] at this ⊢
            exact this
          · rw [upd_ne y] at this
            rw [upd_ne y, upd_ne y]
            exact k2' b o hb this
        · have keep : ∀ L xs, (upd H2 D (.lst [])) L = none → H2' L = some (.lst xs) → upd H2' D (.lst (ys ++ [v])) L = some (.lst xs) := fun L xs n z => by
            have nL : L ≠ D := fun y => by
              rw [y, upd_same] at n
              cases n
            rw [upd_ne nL]
            exact z
          refine NwP.app (hN.stay (fun _ _ g => tp_t (t4.trans t5) g) fun L xs n z => keep L xs n (k2' _ _ (ne_of z e' (by intro y; cases y)) z)) (.cons ?_ .nil)
          have freeD : ∀ x, H' x = none → (upd H2 D (.lst [])) x = none := fun x n => by
            have nx : x ≠ D := fun z => by
              rw [z, hD'] at n
              cases n
            cases hh : (upd H2 D (.lst [])) x with
            | none => rfl
            | some o =>
              have npx : x ≠ p := fun z => by
                rw [z, e'] at n
                cases n
              have := kD x o npx hh
              rw [upd_ne nx, n] at this
              cases this
          exact (NwI.less freeD hv).stay (fun _ _ g => tp_t t5 g) keep
        · have hi' : rdI (tksOf t) 2 s' = .ok i s2' := hi
          rw [hL, rdP_more hend hi', rdCat_cat]
      · have hz' : rdI (tksOf t) 2 s' = .bad z := hz
        rw [hL, rdP_bad hend hz']
        rfl
theorem sc__law_pen : FnScope ["_law_script"] ["_law_script"] (defScope s__law_pen) := ⟨rfl, rfl, rfl, by decide +kernel, rfl, by decide +kernel, by decide +kernel⟩
theorem ok__law_pen {f : Addr} {fd : FuncData} (F : Fun K "_law_pen" "_law_pen" s__law_pen f fd) (B : Blt mg) : FnOk P w K mg base CX0 1 f fd ["_law_script"] (sp__law_pen K) := by
  refine F.ok sc__law_pen (fun vs H Q E h => ?_) (fun cdv A outer s H vs Q E hr h => ?_)
  · obtain ⟨a, ns, rfl, _⟩ := h
    rfl
  · obtain ⟨a, ns, rfl, hS, k⟩ := h
    have nd := sc__law_pen.nd
    refine ⟨_, (pss_one (ps_ret (pe_disp (pps_cons pe_str (pe_callTy call_list_of (by rfl) B.list (by decide +kernel) (pa_cons (pe_slice sl_list (pv 0) po_none (po_some pe_int)) pa_nil)) (pps_cons pe_str pe_int (pps_cons pe_str pe_int pps_nil))) (by rfl) (by rfl) (fun z => by cases z) (by decide)))), ?_⟩
    intro p np
    have s1 : Same H (upd H p (.dK [])) := same_new np
    refine ⟨_, rfl, 63, rfl, a, _, rfl, s1.seq hS, fun q nq => ?_⟩
    have nqp : p ≠ q := ne_of_none upd_same nq
    refine ⟨q, _, rfl, .inl (SqL.of upd_same), fun c nc => ?_⟩
    have npc : p ≠ c := ne_of_none (show upd (upd H p (.dK [])) q _ p = some (.dK []) by rw [upd_ne nqp, upd_same]) nc
    have s2 : Same H (upd (upd H p (.dK [])) q (.lst (cutV (ns.map V.int) none (some 63)))) := s1.trans (same_new nq)
    refine ⟨?_, penKv c 0 0, rfl, by show 3 ≤ 15; decide, ?_⟩
    · rw [upd_ne npc, upd_ne nqp, upd_same]
    · rw [pen_merge]
      obtain ⟨ms, hms⟩ : ∃ ms : List Int, cutV (ns.map V.int) none (some 63) = ms.map V.int := by
        unfold cutV
        rw [← List.map_drop, ← List.map_take]
        exact ⟨_, rfl⟩
      refine k p c _ np (same_mut (s2.trans (same_new nc)) np) ⟨ms, 0, 0, upd_same, ?_, by omega, by omega⟩
      rw [upd_ne npc.symm, upd_same, hms]
theorem sc__law_draw : FnScope ["_law_pen_here", "_law_many", "_law_digit", "_law_used", "_law_cell", "_law_blend"] ["_law_pen_here", "_law_many"] (defScope s__law_draw) := ⟨rfl, rfl, rfl, by decide +kernel, rfl, by decide +kernel, by decide +kernel⟩
theorem ints_shaped (ns : List Int) : SeqAt.shaped (.list (ns.map PyData.int)) = true := by
  have : PyData.canLayAll0 (ns.map PyData.int) = true ∧ PyData.depthAll (ns.map PyData.int) = 0 := by
    induction ns with
    | nil => exact ⟨rfl, rfl⟩
    | cons n r ih =>
      refine ⟨?_, ?_⟩
      · show (true && PyData.canLayAll0 (r.map PyData.int)) = true
        rw [ih.1]
        rfl
      · show max 0 (PyData.depthAll (r.map PyData.int)) = 0
        rw [ih.2]
        rfl
  show (PyData.canLayAll0 (ns.map PyData.int) && decide (PyData.depthAll (ns.map PyData.int) + 1 ≤ 64)) = true
  rw [this.1, this.2]
  rfl
theorem ints_dpAll {H : Hp} : ∀ ns : List Int, DpAll K H (ns.map V.int) (ns.map PyData.int)
  | [] => .nil
  | n :: r => .cons (.int n) (ints_dpAll r)
theorem dg_left {H : Hp} {p c : Addr} {u l : Int} (h : H p = some (.dK (penKv c u l))) : DGet H p (.str "left") (some (.int l)) := by
  have := DGet.k (k := (Sum.inr ("left" : Str) : Key)) h
  rw [pen_left] at this
  exact this
theorem dg_used {H : Hp} {p c : Addr} {u l : Int} (h : H p = some (.dK (penKv c u l))) : DGet H p (.str "used") (some (.int u)) := by
  have := DGet.k (k := (Sum.inr ("used" : Str) : Key)) h
  rw [pen_used] at this
  exact this
theorem dg_cells {H : Hp} {p c : Addr} {u l : Int} (h : H p = some (.dK (penKv c u l))) : DGet H p (.str "cells") (some (.ref c)) := by
  have := DGet.k (k := (Sum.inr ("cells" : Str) : Key)) h
  rw [pen_cells] at this
  exact this
theorem dp_left {H : Hp} {p c : Addr} {u l : Int} (x : Int) (h : H p = some (.dK (penKv c u l))) : DPut H p (.str "left") (.int x) (upd H p (.dK (penKv c u x))) := by
  have := DPut.k (k := (Sum.inr ("left" : Str) : Key)) (v := .int x) h (sl_lt (show 3 ≤ 1000000 by decide))
  rw [pen_setL] at this
  exact this
theorem dp_used {H : Hp} {p c : Addr} {u l : Int} (x : Int) (h : H p = some (.dK (penKv c u l))) : DPut H p (.str "used") (.int x) (upd H p (.dK (penKv c x l))) := by
  have := DPut.k (k := (Sum.inr ("used" : Str) : Key)) (v := .int x) h (sl_lt (show 3 ≤ 1000000 by decide))
  rw [pen_setU] at this
  exact this
theorem atI_mod {ns : List Int} (u : Int) (h : 0 < ns.length) : ∃ z, atI (ns.map V.int) (u % ((ns.map V.int).length : Int)) = some (.int z) := by
  rw [List.length_map]
  have h1 := Int.emod_nonneg u (show (ns.length : Int) ≠ 0 by omega)
  have h2 := Int.emod_lt_of_pos u (show (0 : Int) < (ns.length : Int) by omega)
  obtain ⟨j, hj⟩ : ∃ j : Nat, u % (ns.length : Int) = (j : Int) := ⟨(u % (ns.length : Int)).toNat, by omega⟩
  rw [hj]
  have hlt : j < ns.length := by omega
  refine ⟨ns[j], atI_nat ?_⟩
  rw [List.getElem?_map, List.getElem?_eq_getElem hlt]
  rfl
theorem cm_197 (x j : Int) : CMul (x % 4294967197) j := .inl ⟨by have := Int.emod_nonneg x (show (4294967197 : Int) ≠ 0 by decide); omega, by have := Int.emod_lt_of_pos x (show (0 : Int) < 4294967197 by decide); omega⟩
theorem cm_189 (x j : Int) : CMul (x % 4294967189) j := .inl ⟨by have := Int.emod_nonneg x (show (4294967189 : Int) ≠ 0 by decide); omega, by have := Int.emod_lt_of_pos x (show (0 : Int) < 4294967189 by decide); omega⟩
theorem ok__law_draw {f : Addr} {fd : FuncData} (F : Fun K "_law_draw" "_law_draw" s__law_draw f fd) (B : Blt mg) : FnOk P w K mg base CX0 1 f fd ["_law_pen_here", "_law_many"] sp__law_draw := by
  refine F.ok sc__law_draw (fun vs H Q E h => ?_) (fun cdv A outer s H vs Q E hr h => ?_)
  · obtain ⟨p, c, many, n, rfl, _⟩ := h
    rfl
  · obtain ⟨p, c, many, n, rfl, hm, hm2, ⟨ns, u, l, h1, h2, hu0, hun⟩, hn, k⟩ := h
    have hu := hu_of hr
    have hu2 := hr.units
    have nd := sc__law_draw.nd
    have npc : p ≠ c := ne_of h1 h2 (by intro z; cases z)
    refine ⟨_, (pss_cons (ps_if (pt_cmpR op_gt (pe_dget hu (pv 0) pe_str (fun _ _ => rfl)) pe_int (nomark _))
      (pss_cons (ps_set (i := 2) nd rfl (.inl rfl) (pe_op op_mod (pe_dget hu (pv 0) pe_str (fun _ _ => rfl)) (pv 1)))
    (pss_cons (ps_dput hu (pv 0) pe_str (pe_op op_fdivW (pe_dget hu (pv 0) pe_str (fun _ _ => rfl)) (pv 1)) rfl)
    (pss_one (ps_ret (pv 2)))))
      pss_nil)
    (pss_cons (ps_set (i := 3) nd rfl (.inl rfl) (pe_dget hu (pv 0) pe_str (fun _ _ => rfl)))
    (pss_cons (ps_dput hu (pv 0) pe_str (pe_op op_add (pv 3) pe_int) rfl)
    (pss_cons (ps_set (i := 4) nd rfl (.inl rfl) (pe_op op_add (pe_op op_mul pe_int (pv 3)) pe_int))
    (pss_cons (ps_if (pt_cmpR (op_neD hu2) (pe_dget hu (pv 0) pe_str (fun _ _ => rfl)) (pe_lst pa_nil) (nomark _))
      (pss_one (ps_set (i := 4) nd rfl (.inl rfl) (pe_ix ix_list (pe_dget hu (pv 0) pe_str (fun _ _ => rfl)) (pe_op op_mod (pv 3) (pe_callB call_len_seq (by rfl) B.len (by decide +kernel) (pa_cons (pe_dget hu (pv 0) pe_str (fun _ _ => rfl)) pa_nil))) (fun _ _ => rfl))))
      pss_nil)
    (pss_cons (ps_if (PW.pt (pw_and (pt_cmpR op_lt (pv 3) (pe_callB call_len_seq (by rfl) B.len (by decide +kernel) (pa_cons (pe_dget hu (pv 0) pe_str (fun _ _ => rfl)) pa_nil)) (nomark _)) (pw_and1 (pt_cmpR op_ge (pe_callB call_abs (by rfl) B.abs (by decide +kernel) (pa_cons (pv 4) pa_nil)) (pe_op op_pow pe_int pe_int) (nomark _)))))
      (pss_cons (ps_dput hu (pv 0) pe_str (pe_op op_fdivW (pe_op op_sub (pe_callB call_abs (by rfl) B.abs (by decide +kernel) (pa_cons (pv 4) pa_nil)) (pe_op op_pow pe_int pe_int)) (pv 1)) rfl)
    (pss_one (ps_ret (pe_op op_mod (pe_op op_sub (pe_callB call_abs (by rfl) B.abs (by decide +kernel) (pa_cons (pv 4) pa_nil)) (pe_op op_pow pe_int pe_int)) (pv 1)))))
      pss_nil)
    (pss_cons (ps_set (i := 5) nd rfl (.inl rfl) (pe_op op_add (pe_op op_mul (pe_op op_mod (pv 4) pe_int) pe_int) (pe_op op_mul (pe_op op_mul pe_int (pv 3)) (pv 3))))
    (pss_cons (ps_set (i := 5) nd rfl (.inl rfl) (pe_op op_mod (pe_op op_add (pe_op op_add (pv 5) (pe_op op_mul pe_int (pv 3))) pe_int) pe_int))
    (pss_cons (ps_set (i := 5) nd rfl (.inl rfl) (pe_op op_mod (pe_op op_add (pe_op op_add (pe_op op_add (pe_op op_mul (pv 5) (pv 5)) (pe_op op_mul pe_int (pv 5))) (pe_op op_mul pe_int (pv 3))) pe_int) pe_int))
    (pss_one (ps_ret (pe_op op_mod (pe_op op_fdiv (pe_op op_mod (pe_op op_mul (pv 5) (pe_op op_add (pv 5) pe_int)) pe_int) pe_int) (pv 1))))))))))))), ?_⟩
    have wd : ∀ i : Int, CDivW i many := fun i => wide_div hm hm2 (by decide) (by decide)
    have rng : ∀ i : Int, 0 ≤ i % many ∧ i % many < many := fun i => ⟨Int.emod_nonneg i (by omega), Int.emod_lt_of_pos i hm⟩
    refine ⟨_, rfl, p, _, rfl, dg_left h1, _, _, rfl, rfl, _, rfl, ?_⟩
    refine ite2 (fun _ => ?_) (fun _ => ?_)
    · refine ⟨_, rfl, p, _, rfl, dg_left h1, _, rfl, l, many, rfl, rfl, hm, ?_⟩
      refine ⟨_, rfl, p, _, rfl, dg_left h1, _, rfl, l, many, rfl, rfl, wd _, _, rfl, p, _, rfl, dp_left _ h1, _, rfl, ?_⟩
      exact k _ _ (rng l).1 (rng l).2 (Kp.refl p H).upd ⟨ns, u, _, upd_same, by rw [upd_ne npc.symm]; exact h2, hu0, by omega⟩
    · have g1 : upd H p (.dK (penKv c (u + 1) l)) p = some (.dK (penKv c (u + 1) l)) := upd_same
      have g2 : upd H p (.dK (penKv c (u + 1) l)) c = some (.lst (ns.map V.int)) := by
        rw [upd_ne npc.symm]
        exact h2
      refine ⟨_, rfl, p, _, rfl, dg_used h1, _, rfl, u, 1, rfl, rfl, _, rfl, p, _, rfl, dp_used (u + 1) h1, ?_⟩
      refine ⟨_, rfl, 29, u, rfl, rfl, .inl ⟨by decide, by decide⟩, _, 11, rfl, rfl, ?_⟩
      refine ⟨_, rfl, p, _, rfl, dg_cells g1, Nat.zero_le _, fun q nq => ?_⟩
      have e1 : upd (upd H p (.dK (penKv c (u + 1) l))) q (.lst []) p = some (.dK (penKv c (u + 1) l)) := by
        rw [upd_ne (ne_of_none g1 nq)]
        exact g1
      have e2 : upd (upd H p (.dK (penKv c (u + 1) l))) q (.lst []) c = some (.lst (ns.map V.int)) := by
        rw [upd_ne (ne_of_none g2 nq)]
        exact g2
      have kq : Kp p H (upd (upd H p (.dK (penKv c (u + 1) l))) q (.lst [])) := (Kp.refl p H).upd.trans (Same.kp (same_new nq))
      have e3 : upd (upd H p (.dK (penKv c (u + 1) l))) q (.lst []) q = some (.lst []) := upd_same
      generalize upd (upd H p (.dK (penKv c (u + 1) l))) q (.lst []) = H1 at e1 e2 e3 kq ⊢
      have hpos : (!PyData.eqv (.list (ns.map PyData.int)) (.list [])) = true → 0 < ns.length := by
        cases ns with
        | nil => exact fun z => absurd z (by decide)
        | cons _ _ => exact fun _ => Nat.succ_pos _
      refine ⟨.list (ns.map PyData.int), .list [], .lst (SqL.of e2) (ints_dpAll ns), .lst (SqL.of e3) .nil, ints_shaped ns, ints_shaped [], _, rfl, ?_⟩
      refine ite2 (fun z => ?_) (fun _ => ?_)
      · obtain ⟨v, hv⟩ := atI_mod u (hpos z)
        refine ⟨_, rfl, p, _, rfl, dg_cells e1, _, rfl, _, rfl, p, _, rfl, dg_cells e1, c, _, rfl, .inl (SqL.of e2), u, _, rfl, rfl, (by rw [List.length_map]; have := hpos z; omega), c, _, _, _, rfl, rfl, SqL.of e2, hv, ?_⟩
        generalize v = cell
        refine ⟨_, rfl, _, rfl, p, _, rfl, dg_cells e1, c, _, rfl, .inl (SqL.of e2), u, _, rfl, rfl, _, rfl, ?_⟩
        refine ite2 (fun _ => ?_) (fun _ => ?_)
        · refine ⟨_, rfl, cell, rfl, 10, 18, rfl, rfl, ⟨by decide, by decide, by decide⟩, _, _, rfl, rfl, _, rfl, ?_⟩
          refine ite2 (fun _ => ?_) (fun _ => ?_)
          · refine ⟨_, rfl, cell, rfl, 10, 18, rfl, rfl, ⟨by decide, by decide, by decide⟩, _, _, rfl, rfl, _, rfl, _, many, rfl, rfl, wd _, _, rfl, p, _, rfl, dp_left _ e1, ?_⟩
            refine ⟨_, rfl, cell, rfl, 10, 18, rfl, rfl, ⟨by decide, by decide, by decide⟩, _, _, rfl, rfl, _, rfl, _, many, rfl, rfl, hm, ?_⟩
            exact k _ _ (rng _).1 (rng _).2 kq.upd ⟨ns, u + 1, _, upd_same, by rw [upd_ne npc.symm]; exact e2, by omega, by omega⟩
          · refine ⟨_, rfl, cell, 4294967231, rfl, rfl, (show (0 : Int) < 4294967231 by decide), _, 1664525, rfl, rfl, .inr ⟨by decide, by decide⟩, _, rfl, 24593, u, rfl, rfl, .inl ⟨by decide, by decide⟩, _, rfl, 24593 * u, u, rfl, rfl, .inr ⟨by omega, by omega⟩, _, _, rfl, rfl, ?_⟩
            refine ⟨_, rfl, _, rfl, 196613, u, rfl, rfl, .inl ⟨by decide, by decide⟩, _, _, rfl, rfl, _, 19, rfl, rfl, _, _, rfl, rfl, (show (0 : Int) < 4294967197 by decide), ?_⟩
            refine ⟨_, rfl, _, rfl, _, _, rfl, rfl, cm_197 _ _, _, rfl, 12582917, _, rfl, rfl, .inl ⟨by decide, by decide⟩, _, _, rfl, rfl, _, rfl, 7, u, rfl, rfl, .inl ⟨by decide, by decide⟩, _, _, rfl, rfl, _, 3, rfl, rfl, _, _, rfl, rfl, (show (0 : Int) < 4294967189 by decide), ?_⟩
            refine ⟨_, rfl, _, rfl, _, 25165843, rfl, rfl, _, _, rfl, rfl, cm_189 _ _, _, _, rfl, rfl, (show (0 : Int) < 4294967291 by decide), _, 64, rfl, rfl, ⟨by decide, by decide⟩, _, rfl, _, many, rfl, rfl, hm, ?_⟩
            exact k _ _ (rng _).1 (rng _).2 kq ⟨ns, u + 1, _, e1, e2, by omega, by omega⟩
        · refine iteF ?_
          refine ⟨_, rfl, cell, 4294967231, rfl, rfl, (show (0 : Int) < 4294967231 by decide), _, 1664525, rfl, rfl, .inr ⟨by decide, by decide⟩, _, rfl, 24593, u, rfl, rfl, .inl ⟨by decide, by decide⟩, _, rfl, 24593 * u, u, rfl, rfl, .inr ⟨by omega, by omega⟩, _, _, rfl, rfl, ?_⟩
          refine ⟨_, rfl, _, rfl, 196613, u, rfl, rfl, .inl ⟨by decide, by decide⟩, _, _, rfl, rfl, _, 19, rfl, rfl, _, _, rfl, rfl, (show (0 : Int) < 4294967197 by decide), ?_⟩
          refine ⟨_, rfl, _, rfl, _, _, rfl, rfl, cm_197 _ _, _, rfl, 12582917, _, rfl, rfl, .inl ⟨by decide, by decide⟩, _, _, rfl, rfl, _, rfl, 7, u, rfl, rfl, .inl ⟨by decide, by decide⟩, _, _, rfl, rfl, _, 3, rfl, rfl, _, _, rfl, rfl, (show (0 : Int) < 4294967189 by decide), ?_⟩
          refine ⟨_, rfl, _, rfl, _, 25165843, rfl, rfl, _, _, rfl, rfl, cm_189 _ _, _, _, rfl, rfl, (show (0 : Int) < 4294967291 by decide), _, 64, rfl, rfl, ⟨by decide, by decide⟩, _, rfl, _, many, rfl, rfl, hm, ?_⟩
          exact k _ _ (rng _).1 (rng _).2 kq ⟨ns, u + 1, _, e1, e2, by omega, by omega⟩
      · refine ⟨_, rfl, _, rfl, p, _, rfl, dg_cells e1, c, _, rfl, .inl (SqL.of e2), u, _, rfl, rfl, _, rfl, ?_⟩
        refine ite2 (fun _ => ?_) (fun _ => ?_)
        · refine ⟨_, rfl, 29 * u + 11, rfl, 10, 18, rfl, rfl, ⟨by decide, by decide, by decide⟩, _, _, rfl, rfl, _, rfl, ?_⟩
          refine ite2 (fun _ => ?_) (fun _ => ?_)
          · refine ⟨_, rfl, 29 * u + 11, rfl, 10, 18, rfl, rfl, ⟨by decide, by decide, by decide⟩, _, _, rfl, rfl, _, rfl, _, many, rfl, rfl, wd _, _, rfl, p, _, rfl, dp_left _ e1, ?_⟩
            refine ⟨_, rfl, 29 * u + 11, rfl, 10, 18, rfl, rfl, ⟨by decide, by decide, by decide⟩, _, _, rfl, rfl, _, rfl, _, many, rfl, rfl, hm, ?_⟩
            exact k _ _ (rng _).1 (rng _).2 kq.upd ⟨ns, u + 1, _, upd_same, by rw [upd_ne npc.symm]; exact e2, by omega, by omega⟩
          · refine ⟨_, rfl, 29 * u + 11, 4294967231, rfl, rfl, (show (0 : Int) < 4294967231 by decide), _, 1664525, rfl, rfl, .inr ⟨by decide, by decide⟩, _, rfl, 24593, u, rfl, rfl, .inl ⟨by decide, by decide⟩, _, rfl, 24593 * u, u, rfl, rfl, .inr ⟨by omega, by omega⟩, _, _, rfl, rfl, ?_⟩
            refine ⟨_, rfl, _, rfl, 196613, u, rfl, rfl, .inl ⟨by decide, by decide⟩, _, _, rfl, rfl, _, 19, rfl, rfl, _, _, rfl, rfl, (show (0 : Int) < 4294967197 by decide), ?_⟩
            refine ⟨_, rfl, _, rfl, _, _, rfl, rfl, cm_197 _ _, _, rfl, 12582917, _, rfl, rfl, .inl ⟨by decide, by decide⟩, _, _, rfl, rfl, _, rfl, 7, u, rfl, rfl, .inl ⟨by decide, by decide⟩, _, _, rfl, rfl, _, 3, rfl, rfl, _, _, rfl, rfl, (show (0 : Int) < 4294967189 by decide), ?_⟩
            refine ⟨_, rfl, _, rfl, _, 25165843, rfl, rfl, _, _, rfl, rfl, cm_189 _ _, _, _, rfl, rfl, (show (0 : Int) < 4294967291 by decide), _, 64, rfl, rfl, ⟨by decide, by decide⟩, _, rfl, _, many, rfl, rfl, hm, ?_⟩
            exact k _ _ (rng _).1 (rng _).2 kq ⟨ns, u + 1, _, e1, e2, by omega, by omega⟩
        · refine iteF ?_
          refine ⟨_, rfl, 29 * u + 11, 4294967231, rfl, rfl, (show (0 : Int) < 4294967231 by decide), _, 1664525, rfl, rfl, .inr ⟨by decide, by decide⟩, _, rfl, 24593, u, rfl, rfl, .inl ⟨by decide, by decide⟩, _, rfl, 24593 * u, u, rfl, rfl, .inr ⟨by omega, by omega⟩, _, _, rfl, rfl, ?_⟩
          refine ⟨_, rfl, _, rfl, 196613, u, rfl, rfl, .inl ⟨by decide, by decide⟩, _, _, rfl, rfl, _, 19, rfl, rfl, _, _, rfl, rfl, (show (0 : Int) < 4294967197 by decide), ?_⟩
          refine ⟨_, rfl, _, rfl, _, _, rfl, rfl, cm_197 _ _, _, rfl, 12582917, _, rfl, rfl, .inl ⟨by decide, by decide⟩, _, _, rfl, rfl, _, rfl, 7, u, rfl, rfl, .inl ⟨by decide, by decide⟩, _, _, rfl, rfl, _, 3, rfl, rfl, _, _, rfl, rfl, (show (0 : Int) < 4294967189 by decide), ?_⟩
          refine ⟨_, rfl, _, rfl, _, 25165843, rfl, rfl, _, _, rfl, rfl, cm_189 _ _, _, _, rfl, rfl, (show (0 : Int) < 4294967291 by decide), _, 64, rfl, rfl, ⟨by decide, by decide⟩, _, rfl, _, many, rfl, rfl, hm, ?_⟩
          exact k _ _ (rng _).1 (rng _).2 kq ⟨ns, u + 1, _, e1, e2, by omega, by omega⟩
theorem sc__law_pick : FnScope ["_law_pen_here", "_law_options"] ["_law_pen_here", "_law_options"] (defScope s__law_pick) := ⟨rfl, rfl, rfl, by decide +kernel, rfl, by decide +kernel, by decide +kernel⟩
theorem ok__law_pick {f : Addr} {fd : FuncData} (F : Fun K "_law_pick" "_law_pick" s__law_pick f fd) (B : Blt mg) (C__law_draw : Cal P w K mg base 1 "_law_draw" sp__law_draw) : FnOk P w K mg base CX0 2 f fd ["_law_pen_here", "_law_options"] sp__law_pick := by
  refine F.ok sc__law_pick (fun vs H Q E h => ?_) (fun cdv A outer s H vs Q E hr h => ?_)
  · obtain ⟨p, c, o, n, xs, rfl, _⟩ := h
    rfl
  · obtain ⟨p, c, o, n, xs, rfl, pen, hn, ho, hx, hx2, k⟩ := h
    have nd := sc__law_pick.nd
    refine ⟨_, (pss_one (ps_ret (pe_ix ix_list (pv 1) (pe_c C__law_draw hr (by decide) (by rfl) (pa_cons (pv 0) (pa_cons (pe_callB call_len_seq (by rfl) B.len (by decide +kernel) (pa_cons (pv 1) pa_nil)) pa_nil))) (fun _ _ => rfl)))), ?_⟩
    have nop : o ≠ p := pen.dict.elim fun _ e => ne_of ho e (by intro z; cases z)
    refine ⟨_, rfl, _, rfl, _, rfl, o, xs, rfl, .inl (SqL.of ho), p, c, (xs.length : Int), n, rfl, by omega, ?_, pen, hn, fun r H1 h0 h9 kp pen1 => ?_⟩
    · exact Nat.lt_of_le_of_lt (show ((xs.length : Int)).natAbs ≤ 100000 by omega) (by decide)
    · obtain ⟨j, rfl⟩ : ∃ j : Nat, r = (j : Int) := ⟨r.toNat, by omega⟩
      have hj : j < xs.length := by omega
      refine ⟨o, xs, (j : Int), xs[j], rfl, rfl, SqL.of (kp _ _ nop ho), atI_nat (List.getElem?_eq_getElem hj), ?_⟩
      exact k _ _ (List.getElem_mem hj) kp pen1
theorem sc__law_integer : FnScope ["_law_pen_here", "_law_most"] ["_law_pen_here", "_law_most"] (defScope s__law_integer) := ⟨rfl, rfl, rfl, by decide +kernel, rfl, by decide +kernel, by decide +kernel⟩
theorem ten90 {m : Int} (h0 : 0 ≤ m) (h : m.natAbs < 10 ^ 90) : (2 * m + 1).natAbs < 2 ^ 400 := by
  have e : (2 * m + 1).natAbs = 2 * m.natAbs + 1 := by omega
  have h2 : 2 * 10 ^ 90 + 1 < 2 ^ 400 := by decide +kernel
  rw [e]
  omega
theorem ok__law_integer {f : Addr} {fd : FuncData} (F : Fun K "_law_integer" "_law_integer" s__law_integer f fd) (B : Blt mg) (C__law_draw : Cal P w K mg base 1 "_law_draw" sp__law_draw) : FnOk P w K mg base CX0 2 f fd ["_law_pen_here", "_law_most"] sp__law_integer := by
  refine F.ok sc__law_integer (fun vs H Q E h => ?_) (fun cdv A outer s H vs Q E hr h => ?_)
  · obtain ⟨p, c, m, n, rfl, _⟩ := h
    rfl
  · obtain ⟨p, c, m, n, rfl, hm, hm2, pen, hn, k⟩ := h
    have nd := sc__law_integer.nd
    refine ⟨_, (pss_one (ps_ret (pe_op op_sub (pe_c C__law_draw hr (by decide) (by rfl) (pa_cons (pv 0) (pa_cons (pe_op op_add (pe_op op_mul pe_int (pv 1)) pe_int) pa_nil))) (pv 1)))), ?_⟩
    refine ⟨_, rfl, _, rfl, 2, m, rfl, rfl, .inl ⟨by decide, by decide⟩, _, 1, rfl, rfl, p, c, 2 * m + 1, n, rfl, by omega, ten90 hm hm2, pen, hn, fun r H1 h0 h9 kp pen1 => ?_⟩
    exact ⟨_, rfl, r, m, rfl, rfl, k _ _ (by omega) kp pen1⟩
theorem sc__law_body : FnScope ["_law_pen_here", "_law_most", "_law_reach", "_law_found", "_law_k", "_law_word", "_law_most_count"] ["_law_pen_here", "_law_most", "_law_reach"] (defScope s__law_body) := ⟨rfl, rfl, rfl, by decide +kernel, rfl, by decide +kernel, by decide +kernel⟩
theorem ok__law_body {f : Addr} {fd : FuncData} (F : Fun K "_law_body" "_law_body" s__law_body f fd) (B : Blt mg) (C__law_draw : Cal P w K mg base 1 "_law_draw" sp__law_draw) (C__law_pick : Cal P w K mg base 2 "_law_pick" sp__law_pick) (C__law_integer : Cal P w K mg base 2 "_law_integer" sp__law_integer) : FnOk P w K mg base CX0 3 f fd ["_law_pen_here", "_law_most", "_law_reach"] (sp__law_bodyG K) := by
  refine F.ok sc__law_body (fun vs H Q E h => ?_) (fun cdv A outer s H vs Q E hr h => ?_)
  · obtain ⟨p, c, most, reach, n, rfl, _⟩ := h
    rfl
  · obtain ⟨p, cs, most, reach, n, rfl, hm, hm2, hre, hre2, pen, hn, k⟩ := h
    have nd := sc__law_body.nd
    refine ⟨_, (pss_cons (ps_set (i := 3) nd rfl (.inl rfl) (pe_lst pa_nil))
    (pss_cons (ps_for PassesOwn.never rfl (pi_range1 (by rfl) B.range (pa_cons (pe_c C__law_draw hr (by decide) (by rfl) (pa_cons (pv 0) (pa_cons (pe_op op_add (pv 1) pe_int) pa_nil))) pa_nil)) (pg_name (i := 4) nd rfl (.inl rfl))
      (pss_cons (ps_par (i := 5) (j := 6) (by rfl) nd rfl rfl (by decide) rfl rfl (pa_cons (pe_c C__law_pick hr (by decide) (by rfl) (pa_cons (pv 0) (pa_cons (pe_lst (pa_cons pe_str (pa_cons pe_str pa_nil))) pa_nil))) (pa_cons (pe_c C__law_pick hr (by decide) (by rfl) (pa_cons (pv 0) (pa_cons (pe_lst (pa_cons pe_int (pa_cons pe_int (pa_cons (pv 2) pa_nil)))) pa_nil))) pa_nil)) (by rfl))
    (pss_one (ps_expr (pe_bm PySem.F.plainAttrs_list PySem.F.slot_list_append PySem.F.type_list_append mt_append (pv 3) (pa_cons (pe_tup (pa_cons (pv 5) (pa_cons (pe_c C__law_integer hr (by decide) (by rfl) (pa_cons (pv 0) (pa_cons (pv 6) pa_nil))) pa_nil))) pa_nil))))))
    (pss_one (ps_ret (pv 3))))), ?_⟩
    refine ⟨Nat.zero_le _, fun D nD => ?_⟩
    have s1 : Same H (upd H D (.lst [])) := same_new nD
    have npD : D ≠ p := pen.np nD
    have ncD : D ≠ cs := pen.nc nD
    refine ⟨_, rfl, _, rfl, most, 1, rfl, rfl, p, cs, most + 1, n, rfl, by omega, Nat.lt_of_le_of_lt (show (most + 1).natAbs ≤ 1001 by omega) (by decide), pen.same s1, by omega, fun r H1 h0 h9 kp pen1 => ?_⟩
    have hD1 : H1 D = some (.lst []) := kp _ _ npD upd_same
    refine ⟨r, rfl, by omega, by omega, for_range (lo := 0) (n := r.toNat) (fun i σ H2 => ∃ (xs : List V) (b : List Ins) (y z u : Option V), σ = [some (.ref p), some (.int most), some (.int reach), some (.ref D), y, z, u] ∧ Kp p H H2 ∧ PenAt H2 p cs (n + 1 + 3 * i) ∧ H2 D = some (.lst xs) ∧ FIs K H2 xs b ∧ Flat b i (max reach.natAbs 3)) ?_ ?_ ?_⟩
    · exact ⟨[], [], none, none, none, rfl, (Same.kp s1).trans kp, pen1, hD1, .nil, Nat.le_refl _, fun i h => absurd h List.not_mem_nil, fun i h => absurd h List.not_mem_nil⟩
    · rintro i σ H2 hi ⟨xs, b, y, z, u, rfl, k2, pen2, hD2, hF, hfl⟩
      have hxl : xs.length ≤ i := by rw [hF.len]; exact hfl.len
      refine ⟨_, rfl, sl_of (show 2 ≤ 1000000 by decide), fun o1 no1 => ?_⟩
      have z1 := same_new no1 (o := HO.lst [V.str "step", V.str "turn"])
      refine ⟨p, cs, o1, _, _, rfl, pen2.same z1, by omega, upd_same, (show 0 < 2 by decide), (show 2 ≤ 100000 by decide), fun wd H3 hwd k3 pen3 => ?_⟩
      refine ⟨_, rfl, _, rfl, sl_of (show 3 ≤ 1000000 by decide), fun o2 no2 => ?_⟩
      have z2 := same_new no2 (o := HO.lst [V.int 1, V.int 3, V.int reach])
      refine ⟨p, cs, o2, _, _, rfl, pen3.same z2, by omega, upd_same, (show 0 < 3 by decide), (show 3 ≤ 100000 by decide), fun mv H4 hmv k4 pen4 => ?_⟩
      obtain ⟨mc, rfl, hmc0, hmc⟩ : ∃ mc : Int, mv = .int mc ∧ 0 ≤ mc ∧ mc.natAbs ≤ max reach.natAbs 3 := by
        rcases List.mem_cons.mp hmv with e | hmv
        · exact ⟨1, e, by decide, by show 1 ≤ _; omega⟩
        rcases List.mem_cons.mp hmv with e | hmv
        · exact ⟨3, e, by decide, by show 3 ≤ _; omega⟩
        rcases List.mem_cons.mp hmv with e | hmv
        · exact ⟨reach, e, hre, by omega⟩
        exact absurd hmv List.not_mem_nil
      refine ⟨_, _, rfl, ?_⟩
      have k24 : Kp p H2 H4 := (Same.kp z1).trans (k3.trans ((Same.kp z2).trans k4))
      have hD4 : H4 D = some (.lst xs) := k24 _ _ npD hD2
      have hmc9 : mc.natAbs < 10 ^ 90 := by
        rcases List.mem_cons.mp hmv with e | hmv
        · cases e; decide
        rcases List.mem_cons.mp hmv with e | hmv
        · cases e; decide
        rcases List.mem_cons.mp hmv with e | hmv
        · cases e; exact hre2
        exact absurd hmv List.not_mem_nil
      refine ⟨_, rfl, .inl ⟨rfl, _, SqL.of hD4⟩, _, rfl, _, rfl, _, rfl, p, cs, mc, _, rfl, hmc0, hmc9, pen4, by omega, fun ct H5 hct k5 pen5 => ?_⟩
      refine ⟨sl_of (show 2 ≤ 1000000 by decide), fun t nt => ?_⟩
      have hD5 : H5 D = some (.lst xs) := k5 _ _ npD hD4
      have z3 := same_new nt (o := HO.tup [wd, V.int ct])
      have hD6 := z3 _ _ hD5
      refine ⟨D, xs, _, rfl, rfl, hD6, sl_lt (by omega), ?_⟩
      have t2 : Tp (upd H5 t (HO.tup [wd, V.int ct])) (upd (upd H5 t (HO.tup [wd, V.int ct])) D (.lst (xs ++ [.ref t]))) := tp_lst hD6
      have k25 : Kp p H2 H5 := k24.trans k5
      obtain ⟨it, hit, hitf, hitc⟩ : ∃ it, FI K (upd H5 t (HO.tup [wd, V.int ct])) (.ref t) it ∧ isFlat it ∧ (cntOf it).natAbs ≤ max reach.natAbs 3 := by
        rcases List.mem_cons.mp hwd with e | hwd
        · subst e
          exact ⟨.step ct, .inl ⟨t, ct, rfl, SqT.of upd_same, rfl⟩, trivial, Nat.le_trans hct hmc⟩
        rcases List.mem_cons.mp hwd with e | hwd
        · subst e
          exact ⟨.turn ct, .inr ⟨t, ct, rfl, SqT.of upd_same, rfl⟩, trivial, Nat.le_trans hct hmc⟩
        exact absurd hwd List.not_mem_nil
      refine ⟨xs ++ [.ref t], b ++ [it], _, _, _, rfl, fun x o nx ex => ?_, ?_, upd_same, FIs.snoc (hF.tp ((pen2.tp k25).trans ((Same.tp z3).trans t2))) (hit.tp t2), ?_, fun j hj => ?_, fun j hj => ?_⟩
      · rw [upd_ne (ne_of_none ex nD)]
        have ex5 := k25 _ _ nx (k2 _ _ nx ex)
        rw [upd_ne (ne_of_none ex5 nt)]
        exact ex5
      · exact ((pen5.same z3).mono (by omega)).upd npD ncD
      · rw [List.length_append]
        have := hfl.len
        show b.length + 1 ≤ i + 1
        omega
      · rcases List.mem_append.mp hj with h | h
        · exact hfl.flat j h
        · cases List.mem_singleton.mp h
          exact hitf
      · rcases List.mem_append.mp hj with h | h
        · exact hfl.cnt j h
        · cases List.mem_singleton.mp h
          exact hitc
    · rintro σ H2 ⟨xs, b, y, z, u, rfl, k2, pen2, hD2, hF, hfl⟩
      exact ⟨_, rfl, k D xs b H2 nD k2 (pen2.mono (by omega)) hD2 hF ⟨Nat.le_trans hfl.len (by omega), hfl.flat, hfl.cnt⟩⟩
theorem sc__law_program : FnScope ["_law_pen_here", "_law_most", "_law_reach", "_law_rounds", "_law_found", "_law_left", "_law_k", "_law_inner", "_law_deeper"] ["_law_pen_here", "_law_most", "_law_reach", "_law_rounds"] (defScope s__law_program) := ⟨rfl, rfl, rfl, by decide +kernel, rfl, by decide +kernel, by decide +kernel⟩
theorem ok__law_program {f : Addr} {fd : FuncData} (F : Fun K "_law_program" "_law_program" s__law_program f fd) (B : Blt mg) (C__law_draw : Cal P w K mg base 1 "_law_draw" sp__law_draw) (C__law_body : Cal P w K mg base 3 "_law_body" (sp__law_bodyG K)) : FnOk P w K mg base CX0 4 f fd ["_law_pen_here", "_law_most", "_law_reach", "_law_rounds"] (sp__law_programG K) := by
  refine F.ok sc__law_program (fun vs H Q E h => ?_) (fun cdv A outer s H vs Q E hr h => ?_)
  · obtain ⟨p, c, most, reach, rounds, n, rfl, _⟩ := h
    rfl
  · obtain ⟨p, c, most, reach, rounds, n, rfl, hm, hm2, hre, hre2, hro, hro2, pen, hn, k⟩ := h
    have nd := sc__law_program.nd
    have hre9 : reach.natAbs < 10 ^ 90 := Nat.lt_of_le_of_lt (show reach.natAbs ≤ 10 ^ 30 by omega) (by decide +kernel)
    have hR : max reach.natAbs 3 ≤ 10 ^ 30 := by
      have : (3 : Nat) ≤ 10 ^ 30 := by decide +kernel
      omega
    have hro9 : (rounds + 1).natAbs < 2 ^ 400 := Nat.lt_of_le_of_lt (show (rounds + 1).natAbs ≤ 10 ^ 30 + 1 by omega) (by decide +kernel)
    have hrn : ∀ r : Int, 0 ≤ r → r < rounds + 1 → r.natAbs ≤ 2 ^ 100 := fun r h0 h9 => Nat.le_trans (show r.natAbs ≤ 10 ^ 30 by omega) (by decide +kernel)
    have hmn : most.toNat ≤ 50 := by omega
    refine ⟨_, (pss_cons (ps_par (i := 4) (j := 5) (by rfl) nd rfl rfl (by decide) rfl rfl (pa_cons (pe_c C__law_body hr (by decide) (by rfl) (pa_cons (pv 0) (pa_cons (pv 1) (pa_cons (pv 2) pa_nil)))) (pa_cons pe_int pa_nil)) (by rfl))
    (pss_cons (ps_for PassesOwn.never rfl (pi_range1 (by rfl) B.range (pa_cons (pe_c C__law_draw hr (by decide) (by rfl) (pa_cons (pv 0) (pa_cons pe_int pa_nil))) pa_nil)) (pg_name (i := 6) nd rfl (.inl rfl))
      (pss_cons (ps_set (i := 7) nd rfl (.inl rfl) (pe_c C__law_body hr (by decide) (by rfl) (pa_cons (pv 0) (pa_cons (pv 1) (pa_cons (pv 2) pa_nil)))))
    (pss_cons (ps_if (PW.pt (pw_and (pt_cmpR op_gt (pv 5) pe_int (nomark _)) (pw_and1 (pt_cmpR op_eq (pe_c C__law_draw hr (by decide) (by rfl) (pa_cons (pv 0) (pa_cons pe_int pa_nil))) pe_int (nomark _)))))
      (pss_cons (ps_set (i := 8) nd rfl (.inl rfl) (pe_tup (pa_cons pe_str (pa_cons (pe_c C__law_draw hr (by decide) (by rfl) (pa_cons (pv 0) (pa_cons (pe_op op_add (pv 3) pe_int) pa_nil))) (pa_cons (pe_c C__law_body hr (by decide) (by rfl) (pa_cons (pv 0) (pa_cons (pv 1) (pa_cons (pv 2) pa_nil)))) pa_nil)))))
    (pss_cons (ps_set (i := 7) nd rfl (.inl rfl) (pe_op op_cat (pe_op op_cat (pv 7) (pe_lst (pa_cons (pv 8) pa_nil))) (pe_c C__law_body hr (by decide) (by rfl) (pa_cons (pv 0) (pa_cons (pv 1) (pa_cons (pv 2) pa_nil))))))
    (pss_one (ps_set (i := 5) nd rfl (.inl rfl) (pe_op op_sub (pv 5) pe_int)))))
      pss_nil)
    (pss_one (ps_if (pt_cmpR op_gt (pv 5) pe_int (nomark _))
      (pss_cons (ps_set (i := 4) nd rfl (.inl rfl) (pe_op op_cat (pv 4) (pe_lst (pa_cons (pe_tup (pa_cons pe_str (pa_cons (pe_c C__law_draw hr (by decide) (by rfl) (pa_cons (pv 0) (pa_cons (pe_op op_add (pv 3) pe_int) pa_nil))) (pa_cons (pv 7) pa_nil)))) pa_nil))))
    (pss_cons (ps_set (i := 4) nd rfl (.inl rfl) (pe_op op_cat (pv 4) (pe_c C__law_body hr (by decide) (by rfl) (pa_cons (pv 0) (pa_cons (pv 1) (pa_cons (pv 2) pa_nil))))))
    (pss_one (ps_set (i := 5) nd rfl (.inl rfl) (pe_op op_sub (pv 5) pe_int)))))
      pss_nil)))))
    (pss_one (ps_ret (pv 4))))), ?_⟩
    refine ⟨_, rfl, _, rfl, _, rfl, p, c, most, reach, n, rfl, hm, by omega, hre, hre9, pen, by omega, fun D0 xs0 b0 H1 _ k1 pen1 hD0 hF0 fl0 => ?_⟩
    refine ⟨_, _, rfl, ?_⟩
    refine ⟨_, rfl, p, c, 4, _, rfl, by decide, by decide, pen1, by omega, fun r H2 r0 r9 k2 pen2 => ?_⟩
    have hF2 := hF0.tp (pen1.tp k2)
    refine ⟨r, rfl, by omega, by omega, for_range (lo := 0) (n := r.toNat) (fun i σ H3 => ∃ (G : Addr) (xs : List V) (b : List Ins) (le : Int) (y7 y8 y9 : Option V), σ = [some (.ref p), some (.int most), some (.int reach), some (.int rounds), some (.ref G), some (.int le), y7, y8, y9] ∧ Kp p H H3 ∧ PenAt H3 p c (n + 152 + 607 * i) ∧ H3 G = some (.lst xs) ∧ IVs K H3 xs b ∧ 0 ≤ le ∧ le ≤ 5 ∧ GdP b 2 (most.toNat + (4 * most.toNat + 2) * i) (5 - le).toNat) ?_ ?_ ?_⟩
    · exact ⟨D0, xs0, b0, 5, none, none, none, rfl, k1.trans k2, pen2.mono (by omega), kp_lst pen1 k2 hD0, hF2.ivs, by decide, by decide, (fl0.gd hR).up (by omega) (by omega) (by omega)⟩
    · rintro i σ H3 hi ⟨G, xs, b, le, y7, y8, y9, rfl, k3, pen3, hG, hI, hle0, hle5, ok⟩
      refine ⟨_, rfl, _, rfl, _, rfl, p, c, most, reach, _, rfl, hm, by omega, hre, hre9, pen3, by omega, fun D1 xs1 b1 H4 _ k4 pen4 hD1 hF1 fl1 => ?_⟩
      have pen4 : PenAt H4 p c (n + 152 + 607 * i + 151) := pen4.mono (by omega)
      have hG4 := kp_lst pen3 k4 hG
      have hI4 := hI.kp pen3 k4
      have ok1 : GdP b1 0 most.toNat 0 := fl1.gd hR
      have l1 : xs1.length ≤ 1000 := by
        rw [hF1.len]
        have := fl1.len
        omega
      have lx : xs.length ≤ 1000 := by
        rw [hI.len]
        have h1 := len_cnP b
        have h2 := ok.c
        have h3 : (4 * most.toNat + 2) * i ≤ 202 * 3 := Nat.mul_le_mul (by omega) (by omega)
        have : i < 4 := by omega
        omega
      -- what follows the inner body is made
      refine ⟨_, rfl, le, 1, rfl, rfl, _, rfl, ite2 (fun hgt => ?_) fun _ => ?_⟩
      all_goals try have hgt := of_decide_eq_true hgt
      · refine ⟨_, rfl, p, c, 2, _, rfl, by decide, by decide, pen4, by omega, fun r2 H5 _ _ k5 pen5 => ?_⟩
        have hG5 := kp_lst pen4 k5 hG4
        have hI5 := hI4.kp pen4 k5
        have hD5 := kp_lst pen4 k5 hD1
        have hF5 := hF1.tp (pen4.tp k5)
        refine ⟨rfl, _, rfl, ite2 (fun _ => ?_) fun _ => ?_⟩
        · refine ⟨_, rfl, _, rfl, rounds, 1, rfl, rfl, p, c, rounds + 1, _, rfl, by omega, hro9, pen5, by omega, fun n2 H6 n20 n29 k6 pen6 => ?_⟩
          refine ⟨_, rfl, _, rfl, _, rfl, p, c, most, reach, _, rfl, hm, by omega, hre, hre9, pen6, by omega, fun D6 xs6 b6 H7 _ k7 pen7 hD6 hF6 fl6 => ?_⟩
          refine ⟨sl_of (show 3 ≤ 1000000 by decide), fun t1 nt1 => ?_⟩
          have y1 := same_new nt1 (o := HO.tup [V.str "repeat", V.int n2, V.ref D6])
          refine ⟨_, rfl, _, rfl, sl_of (show 1 ≤ 1000000 by decide), fun l1 nl1 => ?_⟩
          have y2 := same_new nl1 (o := HO.lst [V.ref t1])
          have k57 : Kp p H5 H7 := k6.trans k7
          have hD7 := (y1.trans y2) _ _ (kp_lst pen5 k57 hD5)
          refine ⟨D1, l1, _, _, rfl, rfl, hD7, upd_same, sl_of (show xs1.length + 1 ≤ 1000000 by omega), fun c1 nc1 => ?_⟩
          have y3 := same_new nc1 (o := HO.lst (xs1 ++ [V.ref t1]))
          have S7 := y1.trans (y2.trans y3)
          have pen8 := pen7.same S7
          have hD6' := S7 _ _ hD6
          have ht1 : IV K _ (V.ref t1) (.rep n2 b6) := iv_rep (same_t (y2.trans y3) (SqT.of (upd_same (H := H7) (o := HO.tup [V.str "repeat", V.int n2, V.ref D6])))) (pv_list (SqL.of hD6') (hF6.ivs.same S7))
          have hJ8 := IVs.app ((hF5.ivs.kp pen5 k57).same S7) (.cons ht1 .nil)
          refine ⟨_, rfl, _, rfl, _, rfl, p, c, most, reach, _, rfl, hm, by omega, hre, hre9, pen8, by omega, fun D8 xs8 b8 H8 _ k8 pen9 hD8 hF8 fl8 => ?_⟩
          have l8 : xs8.length ≤ 1000 := by
            rw [hF8.len]
            have := fl8.len
            omega
          refine ⟨c1, D8, _, _, rfl, rfl, kp_lst pen8 k8 upd_same, hD8, sl_of (show (xs1 ++ [V.ref t1]).length + xs8.length ≤ 1000000 by rw [List.length_append]; show xs1.length + 1 + xs8.length ≤ 1000000; omega), fun c2 nc2 => ?_⟩
          have y4 := same_new nc2 (o := HO.lst ((xs1 ++ [V.ref t1]) ++ xs8))
          have k58 : Kp p H5 (upd H8 c2 (HO.lst ((xs1 ++ [V.ref t1]) ++ xs8))) := k57.trans ((Same.kp S7).trans (k8.trans (Same.kp y4)))
          have okJ : GdP ((b1 ++ [.rep n2 b6]) ++ b8) 1 (3 * most.toNat + 1) 1 := ((ok1.app ((fl6.gd hR).rep n20 (by omega))).app (fl8.gd hR)).up (by decide) (by omega) (by decide)
          have hJ5 := IVs.app ((hJ8.kp pen8 k8).same y4) (hF8.ivs.same y4)
          have hG5 := kp_lst pen5 k58 hG5
          have hI5 := hI5.kp pen5 k58
          have k35 := k4.trans (k5.trans k58)
          have hD5 : (upd H8 c2 (HO.lst ((xs1 ++ [V.ref t1]) ++ xs8))) c2 = some (HO.lst ((xs1 ++ [V.ref t1]) ++ xs8)) := upd_same
          have pen5 := (pen9.same y4).mono (m := n + 152 + 607 * i + 151 + 1 + 1 + 151 + 151) (by omega)
          refine ⟨_, rfl, le, 1, rfl, rfl, ?_⟩
          refine ⟨_, rfl, _, 0, rfl, rfl, _, rfl, ite2 (fun hpos => ?_) fun hneg => ?_⟩
          all_goals try have hpos := of_decide_eq_true hpos
          · refine ⟨_, rfl, _, rfl, _, rfl, rounds, 1, rfl, rfl, p, c, rounds + 1, _, rfl, by omega, hro9, pen5, by omega, fun rr H6 rr0 rr9 k6 pen6 => ?_⟩
            refine ⟨_, rfl, sl_of (show 3 ≤ 1000000 by decide), fun t nt => ?_⟩
            have z1 := same_new nt (o := HO.tup [V.str "repeat", V.int rr, V.ref c2])
            refine ⟨sl_of (show 1 ≤ 1000000 by decide), fun l nl => ?_⟩
            have z2 := same_new nl (o := HO.lst [V.ref t])
            have hG6 := (z1.trans z2) _ _ (kp_lst pen5 k6 hG5)
            refine ⟨G, l, _, _, rfl, rfl, hG6, upd_same, sl_of (show xs.length + 1 ≤ 1000000 by omega), fun G2 nG2 => ?_⟩
            have z3 := same_new nG2 (o := HO.lst (xs ++ [V.ref t]))
            have S6 := z1.trans (z2.trans z3)
            have hJ6 := (hJ5.kp pen5 k6).same S6
            have hD6 := S6 _ _ (kp_lst pen5 k6 hD5)
            have hI6 := (hI5.kp pen5 k6).same S6
            have ht6 : IV K _ (V.ref t) (.rep rr ((b1 ++ [.rep n2 b6]) ++ b8)) := iv_rep (same_t (z2.trans z3) (SqT.of (upd_same (H := H6) (o := HO.tup [V.str "repeat", V.int rr, V.ref c2])))) (pv_list (SqL.of hD6) hJ6)
            have hII := IVs.app hI6 (.cons ht6 .nil)
            have pen7 := pen6.same S6
            refine ⟨_, rfl, _, rfl, _, rfl, _, rfl, p, c, most, reach, _, rfl, hm, by omega, hre, hre9, pen7, by omega, fun D7 xs7 b7 H7 _ k7 pen8 hD7 hF7 fl7 => ?_⟩
            have l7 : xs7.length ≤ 1000 := by
              rw [hF7.len]
              have := fl7.len
              omega
            refine ⟨G2, D7, _, _, rfl, rfl, kp_lst pen7 k7 upd_same, hD7, sl_of (show (xs ++ [V.ref t]).length + xs7.length ≤ 1000000 by rw [List.length_append]; show xs.length + 1 + xs7.length ≤ 1000000; omega), fun G3 nG3 => ?_⟩
            have z4 := same_new nG3 (o := HO.lst ((xs ++ [V.ref t]) ++ xs7))
            refine ⟨_, rfl, _, 1, rfl, rfl, G3, _, _, _, _, _, _, rfl, k3.trans (k35.trans (k6.trans ((Same.kp S6).trans (k7.trans (Same.kp z4))))), (pen8.same z4).mono (by omega), upd_same, IVs.app ((hII.kp pen7 k7).same z4) (hF7.ivs.same z4), by omega, by omega, ?_⟩
            refine ((ok.app (okJ.rep rr0 (by omega))).app (fl7.gd hR)).up (by decide) (by rw [Nat.mul_add]; omega) (by omega)
          · exact ⟨G, xs, b, _, _, _, _, rfl, k3.trans k35, pen5.mono (by omega), hG5, hI5, by omega, by omega, ok.up (Nat.le_refl _) (by rw [Nat.mul_add]; omega) (by omega)⟩
        · have okJ : GdP b1 1 (3 * most.toNat + 1) 0 := ok1.up (by decide) (by omega) (by decide)
          have hJ5 := hF5.ivs
          have k35 := k4.trans k5
          refine ⟨_, rfl, _, 0, rfl, rfl, _, rfl, ite2 (fun hpos => ?_) fun hneg => ?_⟩
          all_goals try have hpos := of_decide_eq_true hpos
          · refine ⟨_, rfl, _, rfl, _, rfl, rounds, 1, rfl, rfl, p, c, rounds + 1, _, rfl, by omega, hro9, pen5, by omega, fun rr H6 rr0 rr9 k6 pen6 => ?_⟩
            refine ⟨_, rfl, sl_of (show 3 ≤ 1000000 by decide), fun t nt => ?_⟩
            have z1 := same_new nt (o := HO.tup [V.str "repeat", V.int rr, V.ref D1])
            refine ⟨sl_of (show 1 ≤ 1000000 by decide), fun l nl => ?_⟩
            have z2 := same_new nl (o := HO.lst [V.ref t])
            have hG6 := (z1.trans z2) _ _ (kp_lst pen5 k6 hG5)
            refine ⟨G, l, _, _, rfl, rfl, hG6, upd_same, sl_of (show xs.length + 1 ≤ 1000000 by omega), fun G2 nG2 => ?_⟩
            have z3 := same_new nG2 (o := HO.lst (xs ++ [V.ref t]))
            have S6 := z1.trans (z2.trans z3)
            have hJ6 := (hJ5.kp pen5 k6).same S6
            have hD6 := S6 _ _ (kp_lst pen5 k6 hD5)
            have hI6 := (hI5.kp pen5 k6).same S6
            have ht6 : IV K _ (V.ref t) (.rep rr b1) := iv_rep (same_t (z2.trans z3) (SqT.of (upd_same (H := H6) (o := HO.tup [V.str "repeat", V.int rr, V.ref D1])))) (pv_list (SqL.of hD6) hJ6)
            have hII := IVs.app hI6 (.cons ht6 .nil)
            have pen7 := pen6.same S6
            refine ⟨_, rfl, _, rfl, _, rfl, _, rfl, p, c, most, reach, _, rfl, hm, by omega, hre, hre9, pen7, by omega, fun D7 xs7 b7 H7 _ k7 pen8 hD7 hF7 fl7 => ?_⟩
            have l7 : xs7.length ≤ 1000 := by
              rw [hF7.len]
              have := fl7.len
              omega
            refine ⟨G2, D7, _, _, rfl, rfl, kp_lst pen7 k7 upd_same, hD7, sl_of (show (xs ++ [V.ref t]).length + xs7.length ≤ 1000000 by rw [List.length_append]; show xs.length + 1 + xs7.length ≤ 1000000; omega), fun G3 nG3 => ?_⟩
            have z4 := same_new nG3 (o := HO.lst ((xs ++ [V.ref t]) ++ xs7))
            refine ⟨_, rfl, _, 1, rfl, rfl, G3, _, _, _, _, _, _, rfl, k3.trans (k35.trans (k6.trans ((Same.kp S6).trans (k7.trans (Same.kp z4))))), (pen8.same z4).mono (by omega), upd_same, IVs.app ((hII.kp pen7 k7).same z4) (hF7.ivs.same z4), by omega, by omega, ?_⟩
            refine ((ok.app (okJ.rep rr0 (by omega))).app (fl7.gd hR)).up (by decide) (by rw [Nat.mul_add]; omega) (by omega)
          · exact ⟨G, xs, b, _, _, _, _, rfl, k3.trans k35, pen5.mono (by omega), hG5, hI5, by omega, by omega, ok.up (Nat.le_refl _) (by rw [Nat.mul_add]; omega) (by omega)⟩
      · refine iteF ?_
        have okJ : GdP b1 1 (3 * most.toNat + 1) 0 := ok1.up (by decide) (by omega) (by decide)
        have hJ5 := hF1.ivs
        have hG5 := hG4
        have hI5 := hI4
        have hD5 := hD1
        have pen5 := pen4
        refine ⟨_, rfl, _, 0, rfl, rfl, _, rfl, ite2 (fun hpos => ?_) fun hneg => ?_⟩
        all_goals try have hpos := of_decide_eq_true hpos
        · refine ⟨_, rfl, _, rfl, _, rfl, rounds, 1, rfl, rfl, p, c, rounds + 1, _, rfl, by omega, hro9, pen5, by omega, fun rr H6 rr0 rr9 k6 pen6 => ?_⟩
          refine ⟨_, rfl, sl_of (show 3 ≤ 1000000 by decide), fun t nt => ?_⟩
          have z1 := same_new nt (o := HO.tup [V.str "repeat", V.int rr, V.ref D1])
          refine ⟨sl_of (show 1 ≤ 1000000 by decide), fun l nl => ?_⟩
          have z2 := same_new nl (o := HO.lst [V.ref t])
          have hG6 := (z1.trans z2) _ _ (kp_lst pen5 k6 hG5)
          refine ⟨G, l, _, _, rfl, rfl, hG6, upd_same, sl_of (show xs.length + 1 ≤ 1000000 by omega), fun G2 nG2 => ?_⟩
          have z3 := same_new nG2 (o := HO.lst (xs ++ [V.ref t]))
          have S6 := z1.trans (z2.trans z3)
          have hJ6 := (hJ5.kp pen5 k6).same S6
          have hD6 := S6 _ _ (kp_lst pen5 k6 hD5)
          have hI6 := (hI5.kp pen5 k6).same S6
          have ht6 : IV K _ (V.ref t) (.rep rr b1) := iv_rep (same_t (z2.trans z3) (SqT.of (upd_same (H := H6) (o := HO.tup [V.str "repeat", V.int rr, V.ref D1])))) (pv_list (SqL.of hD6) hJ6)
          have hII := IVs.app hI6 (.cons ht6 .nil)
          have pen7 := pen6.same S6
          refine ⟨_, rfl, _, rfl, _, rfl, _, rfl, p, c, most, reach, _, rfl, hm, by omega, hre, hre9, pen7, by omega, fun D7 xs7 b7 H7 _ k7 pen8 hD7 hF7 fl7 => ?_⟩
          have l7 : xs7.length ≤ 1000 := by
            rw [hF7.len]
            have := fl7.len
            omega
          refine ⟨G2, D7, _, _, rfl, rfl, kp_lst pen7 k7 upd_same, hD7, sl_of (show (xs ++ [V.ref t]).length + xs7.length ≤ 1000000 by rw [List.length_append]; show xs.length + 1 + xs7.length ≤ 1000000; omega), fun G3 nG3 => ?_⟩
          have z4 := same_new nG3 (o := HO.lst ((xs ++ [V.ref t]) ++ xs7))
          refine ⟨_, rfl, _, 1, rfl, rfl, G3, _, _, _, _, _, _, rfl, k3.trans (k4.trans (k6.trans ((Same.kp S6).trans (k7.trans (Same.kp z4))))), (pen8.same z4).mono (by omega), upd_same, IVs.app ((hII.kp pen7 k7).same z4) (hF7.ivs.same z4), by omega, by omega, ?_⟩
          refine ((ok.app (okJ.rep rr0 (by omega))).app (fl7.gd hR)).up (by decide) (by rw [Nat.mul_add]; omega) (by omega)
        · exact ⟨G, xs, b, _, _, _, _, rfl, k3.trans k4, pen5.mono (by omega), hG5, hI5, by omega, by omega, ok.up (Nat.le_refl _) (by rw [Nat.mul_add]; omega) (by omega)⟩
    · rintro σ H3 ⟨G, xs, b, le, y7, y8, y9, rfl, k3, pen3, hG, hI, hle0, hle5, ok⟩
      have : r.toNat ≤ 3 := by omega
      have h5 : (4 * most.toNat + 2) * r.toNat ≤ (4 * most.toNat + 2) * 3 := Nat.mul_le_mul_left _ this
      exact ⟨_, rfl, k G xs b H3 k3 (pen3.mono (by omega)) hG hI (ok.up (Nat.le_refl _) (by omega) (by omega))⟩
theorem sc__law_wide_program : FnScope ["_law_pen_here", "_law_most", "_law_reach"] ["_law_pen_here", "_law_most"] (defScope s__law_wide_program) := ⟨rfl, rfl, rfl, by decide +kernel, rfl, by decide +kernel, by decide +kernel⟩
theorem ok__law_wide_program {f : Addr} {fd : FuncData} (F : Fun K "_law_wide_program" "_law_wide_program" s__law_wide_program f fd) (B : Blt mg) (C__law_pick : Cal P w K mg base 2 "_law_pick" sp__law_pick) (C__law_program : Cal P w K mg base 4 "_law_program" (sp__law_programG K)) : FnOk P w K mg base CX0 5 f fd ["_law_pen_here", "_law_most"] (sp__law_wide_programG K) := by
  refine F.ok sc__law_wide_program (fun vs H Q E h => ?_) (fun cdv A outer s H vs Q E hr h => ?_)
  · obtain ⟨p, c, most, n, rfl, _⟩ := h
    rfl
  · obtain ⟨p, c, most, n, rfl, hm, hm2, pen, hn, k⟩ := h
    have nd := sc__law_wide_program.nd
    refine ⟨_, (pss_cons (ps_set (i := 2) nd rfl (.inl rfl) (pe_c C__law_pick hr (by decide) (by rfl) (pa_cons (pv 0) (pa_cons (pe_lst (pa_cons pe_int (pa_cons pe_int (pa_cons pe_int (pa_cons (pe_op op_pow pe_int pe_int) (pa_cons (pe_op op_pow pe_int pe_int) pa_nil)))))) pa_nil))))
    (pss_one (ps_ret (pe_c C__law_program hr (by decide) (by rfl) (pa_cons (pv 0) (pa_cons (pv 1) (pa_cons (pv 2) (pa_cons (pe_c C__law_pick hr (by decide) (by rfl) (pa_cons (pv 0) (pa_cons (pe_lst (pa_cons pe_int (pa_cons pe_int (pa_cons (pe_op op_pow pe_int pe_int) (pa_cons (pe_op op_pow pe_int pe_int) pa_nil))))) pa_nil))) pa_nil)))))))), ?_⟩
    refine ⟨_, rfl, 10, 6, rfl, rfl, ⟨by decide, by decide, by decide⟩, 10, 30, rfl, rfl, ⟨by decide, by decide, by decide⟩, sl_of (show 5 ≤ 1000000 by decide), fun o1 no1 => ?_⟩
    refine ⟨p, c, o1, _, _, rfl, pen.same (same_new no1), by omega, upd_same, (show 0 < 5 by decide), (show 5 ≤ 100000 by decide), fun rv H1 hrv k1 pen1 => ?_⟩
    obtain ⟨reach, rfl, hre, hre2⟩ := mem_ints (ns := [1, 2, 9, 10 ^ 6, 10 ^ 30]) (R := fun x => 0 ≤ x ∧ x ≤ 10 ^ 30) hrv (by decide +kernel)
    refine ⟨_, rfl, _, rfl, _, rfl, _, rfl, 10, 6, rfl, rfl, ⟨by decide, by decide, by decide⟩, 10, 30, rfl, rfl, ⟨by decide, by decide, by decide⟩, sl_of (show 4 ≤ 1000000 by decide), fun o2 no2 => ?_⟩
    refine ⟨p, c, o2, _, _, rfl, pen1.same (same_new no2), by omega, upd_same, (show 0 < 4 by decide), (show 4 ≤ 100000 by decide), fun sv H2 hsv k2 pen2 => ?_⟩
    obtain ⟨rounds, rfl, hro, hro2⟩ := mem_ints (ns := [2, 9, 10 ^ 6, 10 ^ 30]) (R := fun x => 0 ≤ x ∧ x ≤ 10 ^ 30) hsv (by decide +kernel)
    exact ⟨p, c, most, reach, rounds, _, rfl, hm, hm2, hre, hre2, hro, hro2, pen2, by omega, fun F xs b H3 k3 pen3 hF hI ok => k F xs b H3 ((Same.kp (same_new no1)).trans (k1.trans ((Same.kp (same_new no2)).trans (k2.trans k3)))) (pen3.mono (by omega)) hF hI ok⟩
theorem sc__law_full_program : FnScope ["_law_pen_here", "_law_body_here", "_law_k", "_law_cuts", "_law_parts", "_law_rounds", "_law_found"] ["_law_pen_here"] (defScope s__law_full_program) := ⟨rfl, rfl, rfl, by decide +kernel, rfl, by decide +kernel, by decide +kernel⟩
theorem ints_of : ∀ {xs : List V} {R : Int → Prop}, (∀ v ∈ xs, ∃ r, v = V.int r ∧ R r) → ∃ ns : List Int, xs = ns.map V.int ∧ ∀ r ∈ ns, R r
  | [], _, _ => ⟨[], rfl, fun r h => absurd h List.not_mem_nil⟩
  | x :: xs, R, h => by
    obtain ⟨r, rfl, hr⟩ := h x List.mem_cons_self
    obtain ⟨ns, rfl, hn⟩ := ints_of (xs := xs) fun v hv => h v (List.mem_cons_of_mem _ hv)
    exact ⟨r :: ns, rfl, fun z hz => (List.mem_cons.mp hz).elim (fun e => e ▸ hr) (hn z)⟩
def PartOk (K : PySem.W.Frag) (H : Hp) (v : V) : Prop := ∃ q ys b, v = .ref q ∧ H q = some (.lst ys) ∧ FIs K H ys b ∧ Flat b 95 (10 ^ 30)
theorem FIs.take {H : Hp} : ∀ {xs : List V} {b : List Ins} (n : Nat), FIs K H xs b → FIs K H (xs.take n) (b.take n)
  | _, _, 0, _ => .nil
  | _, _, n + 1, .nil => .nil
  | _, _, n + 1, .cons r q => .cons r (FIs.take n q)
theorem FIs.drop {H : Hp} : ∀ {xs : List V} {b : List Ins} (n : Nat), FIs K H xs b → FIs K H (xs.drop n) (b.drop n)
  | _, _, 0, h => h
  | _, _, n + 1, .nil => .nil
  | _, _, n + 1, .cons r q => FIs.drop n q
theorem Flat.sub {b b' : List Ins} {N R : Nat} (h : Flat b N R) (hl : b'.length ≤ b.length) (hs : ∀ i ∈ b', i ∈ b) : Flat b' N R := ⟨Nat.le_trans hl h.len, fun i hi => h.flat i (hs i hi), fun i hi => h.cnt i (hs i hi)⟩
theorem top_at {H : Hp} {b : Addr} (nb : H b = none) (o : HO) : upd H b o b = some o := upd_same
theorem five {α : Type} {xs : List α} (h : xs.length = 5) : ∃ a b c d e, xs = [a, b, c, d, e] := by
  match xs, h with
  | [a, b, c, d, e], _ => exact ⟨a, b, c, d, e, rfl⟩
theorem nine {α : Type} {xs : List α} (h : xs.length = 9) : ∃ a b c d e f g i j, xs = [a, b, c, d, e, f, g, i, j] := by
  match xs, h with
  | [a, b, c, d, e, f, g, i, j], _ => exact ⟨a, b, c, d, e, f, g, i, j, rfl⟩
theorem ok__law_full_program {f : Addr} {fd : FuncData} (F : Fun K "_law_full_program" "_law_full_program" s__law_full_program f fd) (B : Blt mg) (C__law_draw : Cal P w K mg base 1 "_law_draw" sp__law_draw) (C__law_pick : Cal P w K mg base 2 "_law_pick" sp__law_pick) (C__law_integer : Cal P w K mg base 2 "_law_integer" sp__law_integer) : FnOk P w K mg base CX0 3 f fd ["_law_pen_here"] (sp__law_full_programG K) := by
  refine F.ok sc__law_full_program (fun vs H Q E h => ?_) (fun cdv A outer s H vs Q E hr h => ?_)
  · obtain ⟨p, c, n, rfl, _⟩ := h
    rfl
  · obtain ⟨p, c, n, rfl, pen, hn, k⟩ := h
    have nd := sc__law_full_program.nd
    refine ⟨_, (pss_cons (ps_set (i := 1) nd rfl (.inr rfl) (pe_lst pa_nil))
    (pss_cons (ps_for PassesOwn.never rfl (pi_range1 (by rfl) B.range (pa_cons pe_int pa_nil)) (pg_name (i := 2) nd rfl (.inl rfl))
      (pss_one (ps_expr (pe_bm PySem.F.plainAttrs_list PySem.F.slot_list_append PySem.F.type_list_append mt_append (pv 1) (pa_cons (pe_tup (pa_cons (pe_c C__law_pick hr (by decide) (by rfl) (pa_cons (pv 0) (pa_cons (pe_lst (pa_cons pe_str (pa_cons pe_str pa_nil))) pa_nil))) (pa_cons (pe_c C__law_integer hr (by decide) (by rfl) (pa_cons (pv 0) (pa_cons (pe_c C__law_pick hr (by decide) (by rfl) (pa_cons (pv 0) (pa_cons (pe_lst (pa_cons pe_int (pa_cons pe_int (pa_cons (pe_op op_pow pe_int pe_int) pa_nil)))) pa_nil))) pa_nil))) pa_nil))) pa_nil)))))
    (pss_cons (ps_set (i := 3) nd rfl (.inr rfl) (pe_op op_cat (pe_op op_cat (pe_lst (pa_cons pe_int pa_nil)) (pe_callB cr_sortedI (by rfl) B.sorted (by decide +kernel) (pa_cons (pe_lc (own := [("_law_k", 2)]) (by rfl) nd (pi_range1 (by rfl) B.range (pa_cons pe_int pa_nil)) (blkOk_by (N := ["_law_pen_here", "_law_body_here", "_law_k", "_law_cuts", "_law_parts", "_law_rounds", "_law_found"]) (sc := defScope s__law_full_program) (own := [("_law_k", 2)]) (by decide +kernel)) (fun _ _ _ _ _ => (pg_name (i := 2) nd rfl (.inl rfl))) (fun _ _ _ _ _ => pts_nil) (fun _ _ _ _ _ => (pe_c C__law_draw hr (by decide) (by rfl) (pa_cons (pv 0) (pa_cons pe_int pa_nil))))) pa_nil))) (pe_lst (pa_cons pe_int pa_nil))))
    (pss_cons (ps_setLc (i := 4) (own := [("_law_k", 2)]) (by rfl) nd rfl rfl (sw_true rfl rfl rfl (by decide +kernel)) (pi_range1 (by rfl) B.range (pa_cons pe_int pa_nil)) (blkOk_by (N := ["_law_pen_here", "_law_body_here", "_law_k", "_law_cuts", "_law_parts", "_law_rounds", "_law_found"]) (sc := defScope s__law_full_program) (own := [("_law_k", 2)]) (by decide +kernel)) (fun _ _ _ _ _ => (pg_name (i := 2) nd rfl (.inl rfl))) (fun _ _ _ _ _ => pts_nil) (fun _ _ _ _ _ => (pe_slice (sl_listK K rfl) (pv 1) (po_some (pe_ix (ix_listK K rfl) (pv 3) (pv 2) (fun _ _ => rfl))) (po_some (pe_ix (ix_listK K rfl) (pv 3) (pe_op op_add (pv 2) pe_int) (fun _ _ => rfl))))))
    (pss_cons (ps_setLc (i := 5) (own := [("_law_k", 2)]) (by rfl) nd rfl rfl (sw_true rfl rfl rfl (by decide +kernel)) (pi_range1 (by rfl) B.range (pa_cons pe_int pa_nil)) (blkOk_by (N := ["_law_pen_here", "_law_body_here", "_law_k", "_law_cuts", "_law_parts", "_law_rounds", "_law_found"]) (sc := defScope s__law_full_program) (own := [("_law_k", 2)]) (by decide +kernel)) (fun _ _ _ _ _ => (pg_name (i := 2) nd rfl (.inl rfl))) (fun _ _ _ _ _ => pts_nil) (fun _ _ _ _ _ => (pe_c C__law_draw hr (by decide) (by rfl) (pa_cons (pv 0) (pa_cons (pe_c C__law_pick hr (by decide) (by rfl) (pa_cons (pv 0) (pa_cons (pe_lst (pa_cons pe_int (pa_cons (pe_op op_pow pe_int pe_int) (pa_cons (pe_op op_add (pe_op op_pow pe_int pe_int) pe_int) pa_nil)))) pa_nil))) pa_nil)))))
    (pss_cons (ps_set (i := 6) nd rfl (.inl rfl) (pe_op op_cat (pe_op op_cat (pe_ix ix_list (pv 4) pe_int (fun _ _ => rfl)) (pe_lst (pa_cons (pe_tup (pa_cons pe_str (pa_cons (pe_ix ix_list (pv 5) pe_int (fun _ _ => rfl)) (pa_cons (pe_op op_cat (pe_op op_cat (pe_ix ix_list (pv 4) pe_int (fun _ _ => rfl)) (pe_lst (pa_cons (pe_tup (pa_cons pe_str (pa_cons (pe_ix ix_list (pv 5) pe_int (fun _ _ => rfl)) (pa_cons (pe_ix ix_list (pv 4) pe_int (fun _ _ => rfl)) pa_nil)))) pa_nil))) (pe_ix ix_list (pv 4) pe_int (fun _ _ => rfl))) pa_nil)))) pa_nil))) (pe_ix ix_list (pv 4) pe_int (fun _ _ => rfl))))
    (pss_cons (ps_set (i := 6) nd rfl (.inl rfl) (pe_op op_cat (pv 6) (pe_lst (pa_cons (pe_tup (pa_cons pe_str (pa_cons (pe_ix ix_list (pv 5) pe_int (fun _ _ => rfl)) (pa_cons (pe_op op_cat (pe_ix ix_list (pv 4) pe_int (fun _ _ => rfl)) (pe_lst (pa_cons (pe_tup (pa_cons pe_str (pa_cons (pe_ix ix_list (pv 5) pe_int (fun _ _ => rfl)) (pa_cons (pe_ix ix_list (pv 4) pe_int (fun _ _ => rfl)) pa_nil)))) pa_nil))) pa_nil)))) pa_nil))))
    (pss_one (ps_ret (pe_op op_cat (pe_op op_cat (pv 6) (pe_ix ix_list (pv 4) pe_int (fun _ _ => rfl))) (pe_lst (pa_cons (pe_tup (pa_cons pe_str (pa_cons (pe_ix ix_list (pv 5) pe_int (fun _ _ => rfl)) (pa_cons (pe_ix ix_list (pv 4) pe_int (fun _ _ => rfl)) pa_nil)))) pa_nil)))))))))))), ?_⟩
    refine ⟨Nat.zero_le _, fun D nD => ?_⟩
    have s1 : Same H (upd H D (.lst [])) := same_new nD
    have npD : D ≠ p := pen.np nD
    have ncD : D ≠ c := pen.nc nD
    refine ⟨95, rfl, by decide, by decide, for_range (lo := 0) (n := 95) (fun i σ H2 => ∃ (xs : List V) (b : List Ins) (y : Option V), σ = [some (.ref p), some (.ref D), y, none, none, none, none] ∧ Kp p H H2 ∧ PenAt H2 p c (n + 3 * i) ∧ H2 D = some (.lst xs) ∧ FIs K H2 xs b ∧ Flat b i (10 ^ 30)) ?_ ?_ ?_⟩
    · exact ⟨[], [], none, rfl, Same.kp s1, pen.same s1, upd_same, .nil, Nat.le_refl _, fun i h => absurd h List.not_mem_nil, fun i h => absurd h List.not_mem_nil⟩
    · rintro i σ H2 hi ⟨xs, b, y, rfl, k2, pen2, hD2, hF, hfl⟩
      have hxl : xs.length ≤ i := by rw [hF.len]; exact hfl.len
      refine ⟨_, rfl, .inl ⟨rfl, _, SqL.of hD2⟩, _, rfl, sl_of (show 2 ≤ 1000000 by decide), fun o1 no1 => ?_⟩
      have z1 := same_new no1 (o := HO.lst [V.str "step", V.str "turn"])
      refine ⟨p, c, o1, _, _, rfl, pen2.same z1, by omega, upd_same, (show 0 < 2 by decide), (show 2 ≤ 100000 by decide), fun wd H3 hwd k3 pen3 => ?_⟩
      refine ⟨_, rfl, _, rfl, 10, 30, rfl, rfl, ⟨by decide, by decide, by decide⟩, sl_of (show 3 ≤ 1000000 by decide), fun o2 no2 => ?_⟩
      have z2 := same_new no2 (o := HO.lst [V.int 1, V.int 9, V.int (10 ^ 30)])
      refine ⟨p, c, o2, _, _, rfl, pen3.same z2, by omega, upd_same, (show 0 < 3 by decide), (show 3 ≤ 100000 by decide), fun mv H4 hmv k4 pen4 => ?_⟩
      obtain ⟨mc, rfl, hmc0, hmc, hmc9⟩ := mem_ints (ns := [1, 9, 10 ^ 30]) (R := fun x => 0 ≤ x ∧ x.natAbs ≤ 10 ^ 30 ∧ x.natAbs < 10 ^ 90) hmv (by decide +kernel)
      refine ⟨p, c, mc, _, rfl, hmc0, hmc9, pen4, by omega, fun ct H5 hct k5 pen5 => ?_⟩
      refine ⟨sl_of (show 2 ≤ 1000000 by decide), fun t nt => ?_⟩
      have k25 : Kp p H2 H5 := (Same.kp z1).trans (k3.trans ((Same.kp z2).trans (k4.trans k5)))
      have hD5 : H5 D = some (.lst xs) := k25 _ _ npD hD2
      have z3 := same_new nt (o := HO.tup [wd, V.int ct])
      have hD6 := z3 _ _ hD5
      refine ⟨D, xs, _, rfl, rfl, hD6, sl_lt (by omega), ?_⟩
      have t2 : Tp (upd H5 t (HO.tup [wd, V.int ct])) (upd (upd H5 t (HO.tup [wd, V.int ct])) D (.lst (xs ++ [.ref t]))) := tp_lst hD6
      obtain ⟨it, hit, hitf, hitc⟩ : ∃ it, FI K (upd H5 t (HO.tup [wd, V.int ct])) (.ref t) it ∧ isFlat it ∧ (cntOf it).natAbs ≤ 10 ^ 30 := by
        rcases List.mem_cons.mp hwd with e | hwd
        · subst e
          exact ⟨.step ct, .inl ⟨t, ct, rfl, SqT.of upd_same, rfl⟩, trivial, Nat.le_trans hct hmc⟩
        rcases List.mem_cons.mp hwd with e | hwd
        · subst e
          exact ⟨.turn ct, .inr ⟨t, ct, rfl, SqT.of upd_same, rfl⟩, trivial, Nat.le_trans hct hmc⟩
        exact absurd hwd List.not_mem_nil
      refine ⟨xs ++ [.ref t], b ++ [it], _, rfl, fun x o nx ex => ?_, ?_, upd_same, FIs.snoc (hF.tp ((pen2.tp k25).trans ((Same.tp z3).trans t2))) (hit.tp t2), ?_, fun j hj => ?_, fun j hj => ?_⟩
      · rw [upd_ne (ne_of_none ex nD)]
        have ex5 := k25 _ _ nx (k2 _ _ nx ex)
        rw [upd_ne (ne_of_none ex5 nt)]
        exact ex5
      · exact ((pen5.same z3).mono (by omega)).upd npD ncD
      · rw [List.length_append]
        have := hfl.len
        show b.length + 1 ≤ i + 1
        omega
      · rcases List.mem_append.mp hj with h | h
        · exact hfl.flat j h
        · cases List.mem_singleton.mp h
          exact hitf
      · rcases List.mem_append.mp hj with h | h
        · exact hfl.cnt j h
        · cases List.mem_singleton.mp h
          exact hitc
    rintro σ H2 ⟨xs, b, y, rfl, k2, pen2, hD2, hF, hfl⟩
    have hxl : xs.length ≤ 95 := by rw [hF.len]; exact hfl.len
    -- the cuts
    refine ⟨sl_of (show 1 ≤ 1000000 by decide), fun u1 nu1 => ?_⟩
    have y1 := same_new nu1 (o := HO.lst [V.int 0])
    dsimp only [tNext, tSeq, tCB, tCons, tNil, tOp]
    refine lcPen (K := K) (p := p) (c := c) (fun H v => ∃ r : Int, v = V.int r ∧ 0 ≤ r ∧ r ≤ 95) (fun _ h => h) 8 rfl (n + 285) 1 (by decide) (fun _ => rfl) (pen2.same y1) (fun m hm0 H3 k3 pen3 S z => ?_) fun D1 xs1 H3 hl1 hD1 hR1 k3 pen3 => ?_
    · exact ⟨_, rfl, p, c, 96, _, rfl, by decide, by decide, pen3, by omega, fun r H4 r0 r9 k4 pen4 => z (.int r) H4 k4 (pen4.mono (by omega)) ⟨r, rfl, r0, by omega⟩⟩
    obtain ⟨ns, rfl, hcn⟩ := ints_of (R := fun r => 0 ≤ r ∧ r ≤ 95) hR1
    refine ⟨D1, ns, rfl, SqL.of hD1, fun ns' u2 pm so nu2 => ?_⟩
    have y2 := same_new nu2 (o := HO.lst (ns'.map V.int))
    have hns : ns'.length = 8 := by
      rw [pm.length_eq]
      rw [List.length_map] at hl1
      exact hl1
    refine ⟨u1, u2, _, _, rfl, rfl, y2 _ _ (kp_lst (pen2.same y1) k3 upd_same), upd_same, sl_of (show 1 + (ns'.map V.int).length ≤ 1000000 by rw [List.length_map]; omega), fun u3 nu3 => ?_⟩
    have y3 := same_new nu3 (o := HO.lst ([V.int 0] ++ ns'.map V.int))
    refine ⟨sl_of (show 1 ≤ 1000000 by decide), fun u4 nu4 => ?_⟩
    have y4 := same_new nu4 (o := HO.lst [V.int 95])
    refine ⟨u3, u4, _, _, rfl, rfl, y4 _ _ upd_same, upd_same, sl_of (show ([V.int 0] ++ ns'.map V.int).length + 1 ≤ 1000000 by rw [List.length_append, List.length_map, hns]; decide), fun Cu nCu => ?_⟩
    have y5 := same_new nCu (o := HO.lst (([V.int 0] ++ ns'.map V.int) ++ [V.int 95]))
    have S1 := y2.trans (y3.trans (y4.trans y5))
    have pen4 := pen3.same S1
    have ecut : ([V.int 0] ++ ns'.map V.int) ++ [V.int 95] = (0 :: (ns' ++ [95])).map V.int := by
      rw [List.map_cons, List.map_append]
      rfl
    have hCu := (top_at nCu (HO.lst (([V.int 0] ++ ns'.map V.int) ++ [V.int 95]))).trans (congrArg (fun l => some (HO.lst l)) ecut)
    have hcl : ((0 :: (ns' ++ [95]) : List Int)).length = 10 := by
      rw [List.length_cons, List.length_append, hns]
      rfl
    have hcw : ∀ j, j < 9 → cutN (0 :: (ns' ++ [95])) j ≤ cutN (0 :: (ns' ++ [95])) (j + 1) := cuts_up so (fun r h => hcn r (pm.mem_iff.mp h)) (by decide) hns
    have hc9 : cutN (0 :: (ns' ++ [95])) 9 = 95 := cuts_end 95 hns
    have hc0 : ∀ r ∈ (0 :: (ns' ++ [95]) : List Int), 0 ≤ r := fun r h => by
      rcases List.mem_cons.mp h with e | h
      · omega
      rcases List.mem_append.mp h with h | h
      · exact (hcn r (pm.mem_iff.mp h)).1
      · have := List.mem_singleton.mp h
        omega
    have k23 : Kp p H2 _ := (Same.kp y1).trans (k3.trans (Same.kp S1))
    have hD4 := kp_lst pen2 k23 hD2
    have hF4 := hF.tp (pen2.tp k23)
    generalize upd (upd (upd (upd H3 u2 (HO.lst (ns'.map V.int))) u3 (HO.lst ([V.int 0] ++ ns'.map V.int))) u4 (HO.lst [V.int 95])) Cu (HO.lst (([V.int 0] ++ ns'.map V.int) ++ [V.int 95])) = H4 at S1 pen4 hCu k23 hD4 hF4
    generalize (0 :: (ns' ++ [95]) : List Int) = cu at hCu hcl hcw hc9 hc0
    -- the parts
    refine ⟨9, rfl, by decide, by decide, fun Pt nPt => lc_range (lo := 0) (n := 9) (fun m H5 => ∃ acc, H5 Pt = some (.lst acc) ∧ acc.length = m ∧ Same H4 H5 ∧ ∀ j v, acc[j]? = some v → ∃ q ys b', v = .ref q ∧ q ≠ Pt ∧ H5 q = some (.lst ys) ∧ FIs K H5 ys b' ∧ Flat b' (cutN cu (j + 1) - cutN cu j) (10 ^ 30)) ⟨[], upd_same, rfl, same_new nPt, fun j v h => by cases h⟩ ?_ ?_⟩
    · rintro m H5 hm ⟨acc, hP5, hal, s5, hA⟩
      refine ⟨rfl, ?_⟩
      dsimp only [tYes]
      rw [if_pos rfl]
      have hD5 := s5 _ _ hD4
      have hC5 := s5 _ _ hCu
      have e0 : (0 + (m : Int)) = (m : Int) := by omega
      rw [e0]
      refine ⟨_, rfl, _, rfl, _, rfl, Cu, _, (m : Int), _, rfl, rfl, SqL.of hC5, atI_nat (List.getElem?_eq_getElem (by rw [List.length_map]; omega)), ?_⟩
      rw [List.getElem_map]
      refine ⟨_, rfl, _, rfl, _, rfl, (m : Int), 1, rfl, rfl, Cu, _, ((m + 1 : Nat) : Int), _, rfl, rfl, SqL.of hC5, atI_nat (List.getElem?_eq_getElem (by rw [List.length_map]; omega)), ?_⟩
      rw [List.getElem_map]
      refine ⟨_, rfl, D, xs, rfl, SqL.of hD5, fun q nq => ?_⟩
      have w1 := same_new nq (o := HO.lst (cutV xs (some cu[m]) (some cu[m + 1])))
      have hP6 := w1 _ _ hP5
      have nqP : q ≠ Pt := fun z => by rw [z, hP5] at nq; cases nq
      have ct : ∀ (i j : Nat), FIs K H5 ((xs.drop i).take j) ((b.drop i).take j) ∧ Flat ((b.drop i).take j) j (10 ^ 30) := fun i j => ⟨((hF4.tp (Same.tp s5)).drop i).take j, List.length_take_le _ _, fun x hx => hfl.flat x (List.mem_of_mem_drop (List.mem_of_mem_take hx)), fun x hx => hfl.cnt x (List.mem_of_mem_drop (List.mem_of_mem_take hx))⟩
      refine ⟨acc, hP6, sl_lt (by omega), acc ++ [.ref q], upd_same, by rw [List.length_append, hal]; rfl, same_mut (s5.trans w1) nPt, fun j v hv => ?_⟩
      have t2 : Tp (upd H5 q (HO.lst (cutV xs (some cu[m]) (some cu[m + 1])))) (upd (upd H5 q (HO.lst (cutV xs (some cu[m]) (some cu[m + 1])))) Pt (.lst (acc ++ [.ref q]))) := tp_lst hP6
      by_cases hjm : j < acc.length
      · obtain ⟨q', ys, b', e, h1, h2, h3, h4⟩ := hA j v (by rw [← hv, List.getElem?_append_left hjm])
        exact ⟨q', ys, b', e, h1, by rw [upd_ne h1]; exact w1 _ _ h2, h3.tp ((Same.tp w1).trans t2), h4⟩
      · rw [List.getElem?_append_right (by omega)] at hv
        have hjm2 : j = m := by
          rcases Nat.lt_or_ge j (m + 1) with z | z
          · omega
          · rw [List.getElem?_eq_none (by rw [List.length_singleton]; omega)] at hv
            cases hv
        subst hjm2
        rw [hal, Nat.sub_self] at hv
        cases hv
        refine ⟨q, _, _, rfl, nqP, by rw [upd_ne nqP, upd_same]; rfl, (ct _ _).1.tp ((Same.tp w1).trans t2), ?_⟩
        have fl := (ct (HT.sIx xs.length 0 (some cu[j])) (HT.sIx xs.length xs.length (some cu[j + 1]) - HT.sIx xs.length 0 (some cu[j]))).2
        exact ⟨Nat.le_trans fl.len (cut_len (by omega) hc0 (hcw j (by omega)) _), fl.flat, fl.cnt⟩
    rintro H5 ⟨acc, hP5, hal, s5, hA⟩
    have pen5 := pen4.same s5
    obtain ⟨v0, v1, v2, v3, v4, v5, v6, v7, v8, rfl⟩ := nine hal
    -- the rounds
    dsimp only [tNext, tSeq, gName_app]
    refine lcPen (K := K) (p := p) (c := c) (fun H v => ∃ r : Int, v = V.int r ∧ r.natAbs ≤ 2 ^ 100 ∧ 0 ≤ r ∧ r ≤ 10 ^ 30) (fun _ h => h) 5 rfl (n + 285 + 8) 2 (by decide) (fun _ => rfl) pen5 (fun m hm0 H6 k6 pen6 S z => ?_) fun Rl rs H9 hl9 hRl hRs k6 pen9 => ?_
    · refine ⟨_, rfl, _, rfl, 10, 6, rfl, rfl, ⟨by decide, by decide, by decide⟩, 10, 30, rfl, rfl, ⟨by decide, by decide, by decide⟩, _, 1, rfl, rfl, sl_of (show 3 ≤ 1000000 by decide), fun o no => ?_⟩
      refine ⟨p, c, o, _, _, rfl, pen6.same (same_new no), by omega, upd_same, (show 0 < 3 by decide), (show 3 ≤ 100000 by decide), fun mv H7 hmv k7 pen7 => ?_⟩
      obtain ⟨mc, rfl, hmc0, hmc, hmc9⟩ := mem_ints (ns := [3, 10 ^ 6, 10 ^ 30 + 1]) (R := fun x => 0 < x ∧ x ≤ 10 ^ 30 + 1 ∧ x.natAbs < 2 ^ 400) hmv (by decide +kernel)
      exact ⟨p, c, mc, _, rfl, hmc0, hmc9, pen7, by omega, fun r H8 r0 r9 k8 pen8 => z (.int r) H8 ((Same.kp (same_new no)).trans (k7.trans k8)) (pen8.mono (by omega)) ⟨r, rfl, Nat.le_trans (show r.natAbs ≤ 10 ^ 30 by omega) (by decide +kernel), r0, by omega⟩⟩
    obtain ⟨w0, w1, w2, w3, w4, rfl⟩ := five hl9
    obtain ⟨r0, rfl, hr0, g0, u0⟩ := hRs w0 (by simp)
    obtain ⟨r1, rfl, hr1, g1, u1⟩ := hRs w1 (by simp)
    obtain ⟨r2, rfl, hr2, g2, u2⟩ := hRs w2 (by simp)
    obtain ⟨r3, rfl, hr3, g3, u3⟩ := hRs w3 (by simp)
    obtain ⟨r4, rfl, hr4, g4, u4⟩ := hRs w4 (by simp)
    have hten : (10 : Nat) ^ 30 ≤ 2 ^ 100 := by decide +kernel
    have part : ∀ j k v, k = j + 1 → [v0, v1, v2, v3, v4, v5, v6, v7, v8][j]? = some v → ∃ q ys b', v = .ref q ∧ H9 q = some (.lst ys) ∧ FIs K H9 ys b' ∧ GdP b' 0 (cutN cu k - cutN cu j) 0 ∧ ys.length ≤ cutN cu k - cutN cu j := fun j k v hk hv => by
      subst hk
      obtain ⟨q, ys, b', e, _, h2, h3, h4⟩ := hA j v hv
      exact ⟨q, ys, b', e, kp_lst pen5 k6 h2, h3.tp (pen5.tp k6), h4.gd (Nat.le_refl _), by rw [h3.len]; exact h4.len⟩
    have hPt := kp_lst pen5 k6 hP5
    obtain ⟨q0, y0, b0, rfl, hq0, hJ0, P0, m0⟩ := part 0 1 v0 rfl rfl
    obtain ⟨q1, y1, b1, rfl, hq1, hJ1, P1, m1⟩ := part 1 2 v1 rfl rfl
    obtain ⟨q2, y2, b2, rfl, hq2, hJ2, P2, m2⟩ := part 2 3 v2 rfl rfl
    obtain ⟨q3, y3, b3, rfl, hq3, hJ3, P3, m3⟩ := part 3 4 v3 rfl rfl
    obtain ⟨q4, y4, b4, rfl, hq4, hJ4, P4, m4⟩ := part 4 5 v4 rfl rfl
    obtain ⟨q5, y5, b5, rfl, hq5, hJ5, P5, m5⟩ := part 5 6 v5 rfl rfl
    obtain ⟨q6, y6, b6, rfl, hq6, hJ6, P6, m6⟩ := part 6 7 v6 rfl rfl
    obtain ⟨q7, y7, b7, rfl, hq7, hJ7, P7, m7⟩ := part 7 8 v7 rfl rfl
    obtain ⟨q8, y8, b8, rfl, hq8, hJ8, P8, m8⟩ := part 8 9 v8 rfl rfl
    have g0' : cutN cu 0 ≤ cutN cu 1 := hcw 0 (by decide)
    have g1' : cutN cu 1 ≤ cutN cu 2 := hcw 1 (by decide)
    have g2' : cutN cu 2 ≤ cutN cu 3 := hcw 2 (by decide)
    have g3' : cutN cu 3 ≤ cutN cu 4 := hcw 3 (by decide)
    have g4' : cutN cu 4 ≤ cutN cu 5 := hcw 4 (by decide)
    have g5' : cutN cu 5 ≤ cutN cu 6 := hcw 5 (by decide)
    have g6' : cutN cu 6 ≤ cutN cu 7 := hcw 6 (by decide)
    have g7' : cutN cu 7 ≤ cutN cu 8 := hcw 7 (by decide)
    have g8' : cutN cu 8 ≤ cutN cu 9 := hcw 8 (by decide)
    have kk : Kp p H H9 := k2.trans (k23.trans ((Same.kp s5).trans k6))
    -- the first part
    refine ⟨_, rfl, Pt, _, 0, _, rfl, rfl, SqL.of ((Same.refl H9) _ _ hPt), rfl, _, rfl, Rl, _, 0, _, rfl, rfl, SqL.of ((Same.refl H9) _ _ hRl), rfl, _, rfl, Pt, _, 1, _, rfl, rfl, SqL.of ((Same.refl H9) _ _ hPt), rfl, _, rfl, Rl, _, 1, _, rfl, rfl, SqL.of ((Same.refl H9) _ _ hRl), rfl, _, rfl, Pt, _, 2, _, rfl, rfl, SqL.of ((Same.refl H9) _ _ hPt), rfl, sl_of (show 3 ≤ 1000000 by decide), fun t1 nt1 => ?_⟩
    have zt1 := same_new nt1 (o := HO.tup [V.str "repeat", V.int r1, V.ref q2])
    have Tt1 := zt1
    refine ⟨sl_of (show 1 ≤ 1000000 by decide), fun l1 nl1 => ?_⟩
    have zl1 := same_new nl1 (o := HO.lst [V.ref t1])
    have Tl1 := Tt1.trans zl1
    refine ⟨q1, l1, _, _, rfl, rfl, Tl1 _ _ hq1, upd_same, sl_of (show (y1).length + ([V.ref t1]).length ≤ 1000000 by simp only [List.length_append, List.length_cons, List.length_nil]; omega), fun c1 nc1 => ?_⟩
    have zc1 := same_new nc1 (o := HO.lst (y1 ++ [V.ref t1]))
    have Tc1 := Tl1.trans zc1
    refine ⟨_, rfl, Pt, _, 3, _, rfl, rfl, SqL.of (Tc1 _ _ hPt), rfl, c1, q3, _, _, rfl, rfl, upd_same, Tc1 _ _ hq3, sl_of (show ((y1 ++ [V.ref t1])).length + (y3).length ≤ 1000000 by simp only [List.length_append, List.length_cons, List.length_nil]; omega), fun c2 nc2 => ?_⟩
    have zc2 := same_new nc2 (o := HO.lst ((y1 ++ [V.ref t1]) ++ y3))
    have Tc2 := Tc1.trans zc2
    refine ⟨sl_of (show 3 ≤ 1000000 by decide), fun t2 nt2 => ?_⟩
    have zt2 := same_new nt2 (o := HO.tup [V.str "repeat", V.int r0, V.ref c2])
    have Tt2 := Tc2.trans zt2
    refine ⟨sl_of (show 1 ≤ 1000000 by decide), fun l2 nl2 => ?_⟩
    have zl2 := same_new nl2 (o := HO.lst [V.ref t2])
    have Tl2 := Tt2.trans zl2
    refine ⟨q0, l2, _, _, rfl, rfl, Tl2 _ _ hq0, upd_same, sl_of (show (y0).length + ([V.ref t2]).length ≤ 1000000 by simp only [List.length_append, List.length_cons, List.length_nil]; omega), fun c3 nc3 => ?_⟩
    have zc3 := same_new nc3 (o := HO.lst (y0 ++ [V.ref t2]))
    have Tc3 := Tl2.trans zc3
    refine ⟨_, rfl, Pt, _, 4, _, rfl, rfl, SqL.of (Tc3 _ _ hPt), rfl, c3, q4, _, _, rfl, rfl, upd_same, Tc3 _ _ hq4, sl_of (show ((y0 ++ [V.ref t2])).length + (y4).length ≤ 1000000 by simp only [List.length_append, List.length_cons, List.length_nil]; omega), fun c4 nc4 => ?_⟩
    have zc4 := same_new nc4 (o := HO.lst ((y0 ++ [V.ref t2]) ++ y4))
    have Tc4 := Tc3.trans zc4
    refine ⟨_, rfl, _, rfl, Rl, _, 2, _, rfl, rfl, SqL.of (Tc4 _ _ hRl), rfl, _, rfl, Pt, _, 5, _, rfl, rfl, SqL.of (Tc4 _ _ hPt), rfl, _, rfl, Rl, _, 3, _, rfl, rfl, SqL.of (Tc4 _ _ hRl), rfl, _, rfl, Pt, _, 6, _, rfl, rfl, SqL.of (Tc4 _ _ hPt), rfl, sl_of (show 3 ≤ 1000000 by decide), fun t3 nt3 => ?_⟩
    have zt3 := same_new nt3 (o := HO.tup [V.str "repeat", V.int r3, V.ref q6])
    have Tt3 := Tc4.trans zt3
    refine ⟨sl_of (show 1 ≤ 1000000 by decide), fun l3 nl3 => ?_⟩
    have zl3 := same_new nl3 (o := HO.lst [V.ref t3])
    have Tl3 := Tt3.trans zl3
    refine ⟨q5, l3, _, _, rfl, rfl, Tl3 _ _ hq5, upd_same, sl_of (show (y5).length + ([V.ref t3]).length ≤ 1000000 by simp only [List.length_append, List.length_cons, List.length_nil]; omega), fun c5 nc5 => ?_⟩
    have zc5 := same_new nc5 (o := HO.lst (y5 ++ [V.ref t3]))
    have Tc5 := Tl3.trans zc5
    refine ⟨sl_of (show 3 ≤ 1000000 by decide), fun t4 nt4 => ?_⟩
    have zt4 := same_new nt4 (o := HO.tup [V.str "repeat", V.int r2, V.ref c5])
    have Tt4 := Tc5.trans zt4
    refine ⟨sl_of (show 1 ≤ 1000000 by decide), fun l4 nl4 => ?_⟩
    have zl4 := same_new nl4 (o := HO.lst [V.ref t4])
    have Tl4 := Tt4.trans zl4
    refine ⟨c4, l4, _, _, rfl, rfl, ((((zt3.trans zl3).trans zc5).trans zt4).trans zl4) _ _ upd_same, upd_same, sl_of (show (((y0 ++ [V.ref t2]) ++ y4)).length + ([V.ref t4]).length ≤ 1000000 by simp only [List.length_append, List.length_cons, List.length_nil]; omega), fun c6 nc6 => ?_⟩
    have zc6 := same_new nc6 (o := HO.lst (((y0 ++ [V.ref t2]) ++ y4) ++ [V.ref t4]))
    have Tc6 := Tl4.trans zc6
    refine ⟨_, rfl, _, rfl, Pt, _, 7, _, rfl, rfl, SqL.of (Tc6 _ _ hPt), rfl, c6, q7, _, _, rfl, rfl, upd_same, Tc6 _ _ hq7, sl_of (show ((((y0 ++ [V.ref t2]) ++ y4) ++ [V.ref t4])).length + (y7).length ≤ 1000000 by simp only [List.length_append, List.length_cons, List.length_nil]; omega), fun c7 nc7 => ?_⟩
    have zc7 := same_new nc7 (o := HO.lst ((((y0 ++ [V.ref t2]) ++ y4) ++ [V.ref t4]) ++ y7))
    have Tc7 := Tc6.trans zc7
    refine ⟨_, rfl, Rl, _, 4, _, rfl, rfl, SqL.of (Tc7 _ _ hRl), rfl, _, rfl, Pt, _, 8, _, rfl, rfl, SqL.of (Tc7 _ _ hPt), rfl, sl_of (show 3 ≤ 1000000 by decide), fun t5 nt5 => ?_⟩
    have zt5 := same_new nt5 (o := HO.tup [V.str "repeat", V.int r4, V.ref q8])
    have Tt5 := Tc7.trans zt5
    refine ⟨sl_of (show 1 ≤ 1000000 by decide), fun l5 nl5 => ?_⟩
    have zl5 := same_new nl5 (o := HO.lst [V.ref t5])
    have Tl5 := Tt5.trans zl5
    refine ⟨c7, l5, _, _, rfl, rfl, (zt5.trans zl5) _ _ upd_same, upd_same, sl_of (show (((((y0 ++ [V.ref t2]) ++ y4) ++ [V.ref t4]) ++ y7)).length + ([V.ref t5]).length ≤ 1000000 by simp only [List.length_append, List.length_cons, List.length_nil]; omega), fun c8 nc8 => ?_⟩
    have zc8 := same_new nc8 (o := HO.lst (((((y0 ++ [V.ref t2]) ++ y4) ++ [V.ref t4]) ++ y7) ++ [V.ref t5]))
    have Tc8 := Tl5.trans zc8
    have J0 := (hJ0.ivs).same Tc8
    have J1 := (hJ1.ivs).same Tc8
    have J2 := (hJ2.ivs).same Tc8
    have J3 := (hJ3.ivs).same Tc8
    have J4 := (hJ4.ivs).same Tc8
    have J5 := (hJ5.ivs).same Tc8
    have J6 := (hJ6.ivs).same Tc8
    have J7 := (hJ7.ivs).same Tc8
    have J8 := (hJ8.ivs).same Tc8
    have I1 : IV K _ (V.ref t1) (.rep r1 b2) := iv_rep (SqT.of (((((((((((((((((zl1.trans zc1).trans zc2).trans zt2).trans zl2).trans zc3).trans zc4).trans zt3).trans zl3).trans zc5).trans zt4).trans zl4).trans zc6).trans zc7).trans zt5).trans zl5).trans zc8) _ _ (upd_same (o := HO.tup [V.str "repeat", V.int r1, V.ref q2])))) (pv_list (SqL.of (Tc8 _ _ hq2)) J2)
    have I2 : IV K _ (V.ref t2) (.rep r0 ((b1 ++ [.rep r1 b2]) ++ b3)) := iv_rep (SqT.of (((((((((((((zl2.trans zc3).trans zc4).trans zt3).trans zl3).trans zc5).trans zt4).trans zl4).trans zc6).trans zc7).trans zt5).trans zl5).trans zc8) _ _ (upd_same (o := HO.tup [V.str "repeat", V.int r0, V.ref c2])))) (pv_list (SqL.of ((((((((((((((zt2.trans zl2).trans zc3).trans zc4).trans zt3).trans zl3).trans zc5).trans zt4).trans zl4).trans zc6).trans zc7).trans zt5).trans zl5).trans zc8) _ _ upd_same)) (IVs.app (IVs.app J1 (.cons I1 .nil)) J3))
    have I3 : IV K _ (V.ref t3) (.rep r3 b6) := iv_rep (SqT.of (((((((((zl3.trans zc5).trans zt4).trans zl4).trans zc6).trans zc7).trans zt5).trans zl5).trans zc8) _ _ (upd_same (o := HO.tup [V.str "repeat", V.int r3, V.ref q6])))) (pv_list (SqL.of (Tc8 _ _ hq6)) J6)
    have I4 : IV K _ (V.ref t4) (.rep r2 (b5 ++ [.rep r3 b6])) := iv_rep (SqT.of ((((((zl4.trans zc6).trans zc7).trans zt5).trans zl5).trans zc8) _ _ (upd_same (o := HO.tup [V.str "repeat", V.int r2, V.ref c5])))) (pv_list (SqL.of (((((((zt4.trans zl4).trans zc6).trans zc7).trans zt5).trans zl5).trans zc8) _ _ upd_same)) (IVs.app J5 (.cons I3 .nil)))
    have I5 : IV K _ (V.ref t5) (.rep r4 b8) := iv_rep (SqT.of ((zl5.trans zc8) _ _ (upd_same (o := HO.tup [V.str "repeat", V.int r4, V.ref q8])))) (pv_list (SqL.of (Tc8 _ _ hq8)) J8)
    have JJ := IVs.app (IVs.app (IVs.app (IVs.app (IVs.app J0 (.cons I2 .nil)) J4) (.cons I4 .nil)) J7) (.cons I5 .nil)
    have O1 := ((P1.app (P2.rep g1 u1)).app P3).rep (n := r0) g0 u0
    have O2 := (P5.app (P6.rep g3 u3)).rep (n := r2) g2 u2
    exact k c8 _ _ _ (kk.trans (Same.kp Tc8)) ((pen9.same Tc8).mono (by omega)) upd_same JJ ((((((P0.app O1).app P4).app O2).app P7).app (P8.rep g4 u4)).up (by decide) (by omega) (by decide))
theorem sc__law_text : FnScope ["_law_program_here", "_law_tokens", "_law_part"] ["_law_program_here"] (defScope s__law_text) := ⟨rfl, rfl, rfl, by decide +kernel, rfl, by decide +kernel, by decide +kernel⟩
theorem ok__law_text (k : Nat) (C__law_text : Cal P w K mg base (k + 0) "_law_text" (sp__law_text K k)) {f : Addr} {fd : FuncData} (F : Fun K "_law_text" "_law_text" s__law_text f fd) (B : Blt mg) : FnOk P w K mg base CX0 (k + 0 + 1) f fd ["_law_program_here"] (sp__law_text K (k + 1)) := by
  refine F.ok sc__law_text (fun vs H Q E h => ?_) (fun cdv A outer s H vs Q E hr h => ?_)
  · obtain ⟨v, b, rfl, _⟩ := h
    rfl
  · obtain ⟨v, b, rfl, hv, hd, hk, hg, hc, q⟩ := h
    have nd := sc__law_text.nd
    obtain ⟨a, xs, rfl, hsq, hI⟩ := hv.inv
    have word1 : (" " : Str).length = 1 := by decide +kernel
    have hxl : xs.length = b.length := hI.len
    have hbl := len_cnP b
    have wordL : ∀ (wd : Str) (c : Int), wd.length ≤ 10 → c.natAbs ≤ 10 ^ 30 → wd.length + (" " : Str).length ≤ sizeLine ∧ (wd ++ " ").length + (ctS c).length ≤ sizeLine := fun wd c hw hc => by
      have := ct_short hc
      have e : (wd ++ " ").length = wd.length + 1 := by
        rw [TL.len_tl, TL.len_tl, TL.tl_append, List.length_append, tl_blank]
        rfl
      exact ⟨sl_of (by rw [word1]; omega), sl_of (by rw [e]; omega)⟩
    rcases hsq with hs | hs
    · refine ⟨_, (pss_cons (ps_set (i := 1) nd rfl (.inl rfl) (pe_lst pa_nil))
    (pss_cons (ps_for PassesOwn.never rfl (pi_list (pv 0)) (pg_name (i := 2) nd rfl (.inl rfl))
      (pss_cons (ps_expr (pe_bm PySem.F.plainAttrs_list PySem.F.slot_list_append PySem.F.type_list_append mt_append (pv 1) (pa_cons (pe_op op_add_str (pe_op op_add_str (pe_ix ix_tup (pv 2) pe_int (fun _ _ => rfl)) pe_str) (pe_callTy call_str_int (by rfl) B.str (by decide +kernel) (pa_cons (pe_ix ix_tup (pv 2) pe_int (fun _ _ => rfl)) pa_nil))) pa_nil)))
    (pss_one (ps_if (pt_cmpR op_eq (pe_ix ix_tup (pv 2) pe_int (fun _ _ => rfl)) pe_str (nomark _))
      (pss_one (ps_expr (pe_bm PySem.F.plainAttrs_list PySem.F.slot_list_append PySem.F.type_list_append mt_append (pv 1) (pa_cons (pe_cut (pe_ifExp (pt_cmpR op_gt (pe_callB call_len_seq (by rfl) B.len (by decide +kernel) (pa_cons (pe_ix ix_tup (pv 2) pe_int (fun _ _ => rfl)) pa_nil)) pe_int (nomark _)) (pe_op op_add_str (pe_op op_add_str pe_str (pe_c C__law_text hr (by omega) (by rfl) (pa_cons (pe_ix ix_tup (pv 2) pe_int (fun _ _ => rfl)) pa_nil))) pe_str) pe_str)) pa_nil))))
      pss_nil))))
    (pss_one (ps_ret (pe_join pe_str (pv 1)))))), ?_⟩
      refine ⟨Nat.zero_le _, fun D nD => ?_⟩
      have s1 := same_new nD (o := HO.lst [])
      refine ⟨_, rfl, a, rfl, ⟨_, same_l s1 hs⟩, for_list (K := K) (a := a) (xs := xs) (fun j σ H2 => ∃ (gs : List (List Str)) (y : Option V), σ = [some (.ref a), some (.ref D), y] ∧ Same H H2 ∧ H2 D = some (.lst ((gs.map jn).map V.str)) ∧ (∀ g ∈ gs, g ≠ []) ∧ gs.flatten = tkP (b.take j) ∧ gs.length ≤ 2 * j) ⟨[], none, rfl, s1, upd_same, fun g h => absurd h List.not_mem_nil, by rw [List.take_zero, tkP_nil]; rfl, Nat.zero_le _⟩ ?_ ?_ ?_⟩
      · rintro j σ H2 _ ⟨gs, y, _, s2, _⟩
        exact same_l s2 hs
      · rintro j x σ H2 hj ⟨gs, y, rfl, s2, hD2, hne, hfl, hgl⟩
        obtain ⟨i, hi, hx0⟩ := hI.get hj
        have hm := List.mem_of_getElem? hi
        have hjl : j < b.length := (List.getElem?_eq_some_iff.mp hi).1
        have gi := CtP_mem hg hm
        have sn := tkP_snoc hi
        rcases hx0.inv with ⟨e, m, rfl, ht0, rfl⟩ | ⟨e, m, rfl, ht0, rfl⟩ | ⟨e, m, y', bb, rfl, ht0, hy0, rfl⟩
        all_goals have ht := same_t s2 ht0
        · rw [CtI] at gi
          have wl := wordL "step" m (by decide +kernel) gi
          refine ⟨_, rfl, .inl ⟨rfl, _, SqL.of hD2⟩, _, rfl, e, _, 0, _, rfl, rfl, ht, rfl, _, _, rfl, rfl, wl.1, _, rfl, e, _, 1, _, rfl, rfl, ht, rfl, m, rfl, lg_ct gi, _, _, rfl, rfl, wl.2, ?_⟩
          refine ⟨D, _, _, rfl, rfl, hD2, sl_lt (by simp only [List.length_map]; omega), ?_⟩
          refine ⟨_, rfl, e, _, 0, _, rfl, rfl, tp_t (tp_lst hD2) ht, rfl, rfl, _, rfl, iteN v_sr ?_⟩
          refine ⟨gs ++ [[("step" : Str), ctS m]], _, rfl, same_mut s2 nD, ?_, fun g hg => ?_, ?_, by rw [List.length_append]; show _ + 1 ≤ _; omega⟩
          · rw [upd_same, List.map_append, List.map_append]
            show _ = some (HO.lst (_ ++ [V.str (jn [("step" : Str), ctS m])]))
            rw [jn_word]
            rfl
          · rcases List.mem_append.mp hg with h | h
            · exact hne g h
            · rw [List.mem_singleton.mp h]
              simp
          · rw [List.flatten_append, hfl, sn, tkI]
            rfl
        · rw [CtI] at gi
          have wl := wordL "turn" m (by decide +kernel) gi
          refine ⟨_, rfl, .inl ⟨rfl, _, SqL.of hD2⟩, _, rfl, e, _, 0, _, rfl, rfl, ht, rfl, _, _, rfl, rfl, wl.1, _, rfl, e, _, 1, _, rfl, rfl, ht, rfl, m, rfl, lg_ct gi, _, _, rfl, rfl, wl.2, ?_⟩
          refine ⟨D, _, _, rfl, rfl, hD2, sl_lt (by simp only [List.length_map]; omega), ?_⟩
          refine ⟨_, rfl, e, _, 0, _, rfl, rfl, tp_t (tp_lst hD2) ht, rfl, rfl, _, rfl, iteN v_tr ?_⟩
          refine ⟨gs ++ [[("turn" : Str), ctS m]], _, rfl, same_mut s2 nD, ?_, fun g hg => ?_, ?_, by rw [List.length_append]; show _ + 1 ≤ _; omega⟩
          · rw [upd_same, List.map_append, List.map_append]
            show _ = some (HO.lst (_ ++ [V.str (jn [("turn" : Str), ctS m])]))
            rw [jn_word]
            rfl
          · rcases List.mem_append.mp hg with h | h
            · exact hne g h
            · rw [List.mem_singleton.mp h]
              simp
          · rw [List.flatten_append, hfl, sn, tkI]
            rfl
        · rw [CtI] at gi
          have hdi := dpP_mem hm
          rw [dpI] at hdi
          have hci := cnP_mem hm
          rw [cnI] at hci
          have hmn : m.natAbs ≤ 10 ^ 30 := by omega
          have wl := wordL "repeat" m (by decide +kernel) hmn
          refine ⟨_, rfl, .inl ⟨rfl, _, SqL.of hD2⟩, _, rfl, e, _, 0, _, rfl, rfl, ht, rfl, _, _, rfl, rfl, wl.1, _, rfl, e, _, 1, _, rfl, rfl, ht, rfl, m, rfl, lg_ct hmn, _, _, rfl, rfl, wl.2, ?_⟩
          refine ⟨D, _, _, rfl, rfl, hD2, sl_lt (by simp only [List.length_map]; omega), ?_⟩
          have s3 : Same H (upd H2 D (HO.lst (((gs ++ [[("repeat" : Str), ctS m]]).map jn).map V.str))) := same_mut s2 nD
          have e3 : (((gs ++ [[("repeat" : Str), ctS m]]).map jn).map V.str) = ((gs.map jn).map V.str) ++ [V.str ("repeat" ++ " " ++ ctS m)] := by
            rw [List.map_append, List.map_append, ← jn_word]
            rfl
          rw [e3] at s3
          have ht3 := same_t s3 ht0
          have hy3 := hy0.same s3
          refine ⟨_, rfl, e, _, 0, _, rfl, rfl, ht3, rfl, rfl, _, rfl, iteS rfl ?_⟩
          have hD3 : (upd H2 D (HO.lst (((gs.map jn).map V.str) ++ [V.str ("repeat" ++ " " ++ ctS m)]))) D = some (.lst (((gs.map jn).map V.str) ++ [V.str ("repeat" ++ " " ++ ctS m)])) := upd_same
          have hgs : (gs ++ [[("repeat" : Str), ctS m], ([("[" : Str)] ++ (tkP bb ++ [("]" : Str)]))]).flatten = tkP (b.take (j + 1)) := by
            rw [List.flatten_append, hfl, sn, tkI]
            simp
          refine ⟨_, rfl, .inl ⟨rfl, _, SqL.of hD3⟩, fun v4 H4 => v4 = V.str (jn ([("[" : Str)] ++ (tkP bb ++ [("]" : Str)]))) ∧ Same (upd H2 D (HO.lst (((gs.map jn).map V.str) ++ [V.str ("repeat" ++ " " ++ ctS m)]))) H4, ?_, ?_⟩
          · obtain ⟨a2, xs2, rfl, hq2, hI2⟩ := hy3.inv
            refine ⟨_, rfl, e, _, 2, _, rfl, rfl, ht3, rfl, a2, xs2, rfl, hq2, _, _, rfl, rfl, _, rfl, ite2 (fun big => ?_) fun few => ?_⟩
            · have hb0 : bb ≠ [] := fun z => by
                have := hI2.len
                have h9 := of_decide_eq_true big
                rw [z, List.length_nil] at this
                omega
              refine ⟨_, rfl, e, _, 2, _, rfl, rfl, ht3, rfl, _, bb, rfl, pv_of hq2 hI2, by omega, by omega, gi.2.2, by omega, fun H5 s5 => ?_⟩
              have tx := tx_len gi.2.2
              have l2 : ("[ " : Str).length = 2 := by decide +kernel
              have l3 : (" ]" : Str).length = 2 := by decide +kernel
              have l4 : (("[ " : Str) ++ txP bb).length = 2 + (txP bb).length := by
                rw [TL.len_tl, TL.tl_append, List.length_append, ← TL.len_tl, ← TL.len_tl, l2]
              refine ⟨_, _, rfl, rfl, sl_of (by rw [l2]; omega), _, _, rfl, rfl, sl_of (by rw [l3, l4]; omega), ?_⟩
              exact ⟨congrArg V.str (jn_inner hb0).symm, s5⟩
            · have hb0 : bb = [] := by
                have := hI2.len
                have h9 : ¬ ((0 : Int) < (xs2.length : Int)) := fun z => few (decide_eq_true z)
                exact List.length_eq_zero_iff.mp (by omega)
              refine ⟨?_, Same.refl _⟩
              rw [hb0, jn_empty]
          · rintro v4 H4 ⟨rfl, s4⟩
            refine ⟨D, _, _, rfl, rfl, s4 _ _ hD3, sl_lt (by simp only [List.length_append, List.length_map, List.length_cons, List.length_nil]; omega), ?_⟩
            refine ⟨gs ++ [[("repeat" : Str), ctS m], ([("[" : Str)] ++ (tkP bb ++ [("]" : Str)]))], _, rfl, same_mut (s3.trans s4) nD, ?_, fun g hg => ?_, hgs, by rw [List.length_append]; show _ + 2 ≤ _; omega⟩
            · rw [upd_same, ← e3, List.map_append, List.map_append, List.map_append, List.map_append, List.append_assoc]
              rfl
            · rcases List.mem_append.mp hg with h | h
              · exact hne g h
              · rcases List.mem_cons.mp h with rfl | h
                · simp
                · rw [List.mem_singleton.mp h]
                  simp
      · rintro σ H2 ⟨gs, y, rfl, s2, hD2, hne, hfl, hgl⟩
        rw [hI.len, List.take_length] at hfl
        have tkl := tkP_len hg
        have h1 := piece_len (gs := gs)
        have h2 := sum_le (fun t : Str => t.length + 1) 33 (l := gs.flatten) fun t ht => by
          rw [hfl] at ht
          have := tkl.2 t ht
          omega
        have h3 : gs.flatten.length ≤ 4 * cnP b := by rw [hfl]; exact tkl.1
        refine ⟨⟨_, rfl⟩, _, rfl, " ", D, gs.map jn, rfl, rfl, .inl (SqL.of hD2), ?_, ?_⟩
        · rw [word1, List.length_map]
          have := piece_few hne
          have : gs.flatten.length * 33 ≤ 4 * cnP b * 33 := Nat.mul_le_mul_right _ h3
          omega
        · have e9 : Txt.join " " (gs.map jn) = txP b := (jn_groups hne).trans (congrArg jn hfl)
          rw [e9]
          exact q _ s2
    · refine ⟨_, (pss_cons (ps_set (i := 1) nd rfl (.inl rfl) (pe_lst pa_nil))
    (pss_cons (ps_for PassesOwn.never rfl (pi_tup (pv 0)) (pg_name (i := 2) nd rfl (.inl rfl))
      (pss_cons (ps_expr (pe_bm PySem.F.plainAttrs_list PySem.F.slot_list_append PySem.F.type_list_append mt_append (pv 1) (pa_cons (pe_op op_add_str (pe_op op_add_str (pe_ix ix_tup (pv 2) pe_int (fun _ _ => rfl)) pe_str) (pe_callTy call_str_int (by rfl) B.str (by decide +kernel) (pa_cons (pe_ix ix_tup (pv 2) pe_int (fun _ _ => rfl)) pa_nil))) pa_nil)))
    (pss_one (ps_if (pt_cmpR op_eq (pe_ix ix_tup (pv 2) pe_int (fun _ _ => rfl)) pe_str (nomark _))
      (pss_one (ps_expr (pe_bm PySem.F.plainAttrs_list PySem.F.slot_list_append PySem.F.type_list_append mt_append (pv 1) (pa_cons (pe_cut (pe_ifExp (pt_cmpR op_gt (pe_callB call_len_seq (by rfl) B.len (by decide +kernel) (pa_cons (pe_ix ix_tup (pv 2) pe_int (fun _ _ => rfl)) pa_nil)) pe_int (nomark _)) (pe_op op_add_str (pe_op op_add_str pe_str (pe_c C__law_text hr (by omega) (by rfl) (pa_cons (pe_ix ix_tup (pv 2) pe_int (fun _ _ => rfl)) pa_nil))) pe_str) pe_str)) pa_nil))))
      pss_nil))))
    (pss_one (ps_ret (pe_join pe_str (pv 1)))))), ?_⟩
      refine ⟨Nat.zero_le _, fun D nD => ?_⟩
      have s1 := same_new nD (o := HO.lst [])
      refine ⟨_, rfl, a, rfl, ⟨_, same_t s1 hs⟩, for_tup (K := K) (a := a) (xs := xs) (fun j σ H2 => ∃ (gs : List (List Str)) (y : Option V), σ = [some (.ref a), some (.ref D), y] ∧ Same H H2 ∧ H2 D = some (.lst ((gs.map jn).map V.str)) ∧ (∀ g ∈ gs, g ≠ []) ∧ gs.flatten = tkP (b.take j) ∧ gs.length ≤ 2 * j) ⟨[], none, rfl, s1, upd_same, fun g h => absurd h List.not_mem_nil, by rw [List.take_zero, tkP_nil]; rfl, Nat.zero_le _⟩ ?_ ?_ ?_⟩
      · rintro j σ H2 _ ⟨gs, y, _, s2, _⟩
        exact same_t s2 hs
      · rintro j x σ H2 hj ⟨gs, y, rfl, s2, hD2, hne, hfl, hgl⟩
        obtain ⟨i, hi, hx0⟩ := hI.get hj
        have hm := List.mem_of_getElem? hi
        have hjl : j < b.length := (List.getElem?_eq_some_iff.mp hi).1
        have gi := CtP_mem hg hm
        have sn := tkP_snoc hi
        rcases hx0.inv with ⟨e, m, rfl, ht0, rfl⟩ | ⟨e, m, rfl, ht0, rfl⟩ | ⟨e, m, y', bb, rfl, ht0, hy0, rfl⟩
        all_goals have ht := same_t s2 ht0
        · rw [CtI] at gi
          have wl := wordL "step" m (by decide +kernel) gi
          refine ⟨_, rfl, .inl ⟨rfl, _, SqL.of hD2⟩, _, rfl, e, _, 0, _, rfl, rfl, ht, rfl, _, _, rfl, rfl, wl.1, _, rfl, e, _, 1, _, rfl, rfl, ht, rfl, m, rfl, lg_ct gi, _, _, rfl, rfl, wl.2, ?_⟩
          refine ⟨D, _, _, rfl, rfl, hD2, sl_lt (by simp only [List.length_map]; omega), ?_⟩
          refine ⟨_, rfl, e, _, 0, _, rfl, rfl, tp_t (tp_lst hD2) ht, rfl, rfl, _, rfl, iteN v_sr ?_⟩
          refine ⟨gs ++ [[("step" : Str), ctS m]], _, rfl, same_mut s2 nD, ?_, fun g hg => ?_, ?_, by rw [List.length_append]; show _ + 1 ≤ _; omega⟩
          · rw [upd_same, List.map_append, List.map_append]
            show _ = some (HO.lst (_ ++ [V.str (jn [("step" : Str), ctS m])]))
            rw [jn_word]
            rfl
          · rcases List.mem_append.mp hg with h | h
            · exact hne g h
            · rw [List.mem_singleton.mp h]
              simp
          · rw [List.flatten_append, hfl, sn, tkI]
            rfl
        · rw [CtI] at gi
          have wl := wordL "turn" m (by decide +kernel) gi
          refine ⟨_, rfl, .inl ⟨rfl, _, SqL.of hD2⟩, _, rfl, e, _, 0, _, rfl, rfl, ht, rfl, _, _, rfl, rfl, wl.1, _, rfl, e, _, 1, _, rfl, rfl, ht, rfl, m, rfl, lg_ct gi, _, _, rfl, rfl, wl.2, ?_⟩
          refine ⟨D, _, _, rfl, rfl, hD2, sl_lt (by simp only [List.length_map]; omega), ?_⟩
          refine ⟨_, rfl, e, _, 0, _, rfl, rfl, tp_t (tp_lst hD2) ht, rfl, rfl, _, rfl, iteN v_tr ?_⟩
          refine ⟨gs ++ [[("turn" : Str), ctS m]], _, rfl, same_mut s2 nD, ?_, fun g hg => ?_, ?_, by rw [List.length_append]; show _ + 1 ≤ _; omega⟩
          · rw [upd_same, List.map_append, List.map_append]
            show _ = some (HO.lst (_ ++ [V.str (jn [("turn" : Str), ctS m])]))
            rw [jn_word]
            rfl
          · rcases List.mem_append.mp hg with h | h
            · exact hne g h
            · rw [List.mem_singleton.mp h]
              simp
          · rw [List.flatten_append, hfl, sn, tkI]
            rfl
        · rw [CtI] at gi
          have hdi := dpP_mem hm
          rw [dpI] at hdi
          have hci := cnP_mem hm
          rw [cnI] at hci
          have hmn : m.natAbs ≤ 10 ^ 30 := by omega
          have wl := wordL "repeat" m (by decide +kernel) hmn
          refine ⟨_, rfl, .inl ⟨rfl, _, SqL.of hD2⟩, _, rfl, e, _, 0, _, rfl, rfl, ht, rfl, _, _, rfl, rfl, wl.1, _, rfl, e, _, 1, _, rfl, rfl, ht, rfl, m, rfl, lg_ct hmn, _, _, rfl, rfl, wl.2, ?_⟩
          refine ⟨D, _, _, rfl, rfl, hD2, sl_lt (by simp only [List.length_map]; omega), ?_⟩
          have s3 : Same H (upd H2 D (HO.lst (((gs ++ [[("repeat" : Str), ctS m]]).map jn).map V.str))) := same_mut s2 nD
          have e3 : (((gs ++ [[("repeat" : Str), ctS m]]).map jn).map V.str) = ((gs.map jn).map V.str) ++ [V.str ("repeat" ++ " " ++ ctS m)] := by
            rw [List.map_append, List.map_append, ← jn_word]
            rfl
          rw [e3] at s3
          have ht3 := same_t s3 ht0
          have hy3 := hy0.same s3
          refine ⟨_, rfl, e, _, 0, _, rfl, rfl, ht3, rfl, rfl, _, rfl, iteS rfl ?_⟩
          have hD3 : (upd H2 D (HO.lst (((gs.map jn).map V.str) ++ [V.str ("repeat" ++ " " ++ ctS m)]))) D = some (.lst (((gs.map jn).map V.str) ++ [V.str ("repeat" ++ " " ++ ctS m)])) := upd_same
          have hgs : (gs ++ [[("repeat" : Str), ctS m], ([("[" : Str)] ++ (tkP bb ++ [("]" : Str)]))]).flatten = tkP (b.take (j + 1)) := by
            rw [List.flatten_append, hfl, sn, tkI]
            simp
          refine ⟨_, rfl, .inl ⟨rfl, _, SqL.of hD3⟩, fun v4 H4 => v4 = V.str (jn ([("[" : Str)] ++ (tkP bb ++ [("]" : Str)]))) ∧ Same (upd H2 D (HO.lst (((gs.map jn).map V.str) ++ [V.str ("repeat" ++ " " ++ ctS m)]))) H4, ?_, ?_⟩
          · obtain ⟨a2, xs2, rfl, hq2, hI2⟩ := hy3.inv
            refine ⟨_, rfl, e, _, 2, _, rfl, rfl, ht3, rfl, a2, xs2, rfl, hq2, _, _, rfl, rfl, _, rfl, ite2 (fun big => ?_) fun few => ?_⟩
            · have hb0 : bb ≠ [] := fun z => by
                have := hI2.len
                have h9 := of_decide_eq_true big
                rw [z, List.length_nil] at this
                omega
              refine ⟨_, rfl, e, _, 2, _, rfl, rfl, ht3, rfl, _, bb, rfl, pv_of hq2 hI2, by omega, by omega, gi.2.2, by omega, fun H5 s5 => ?_⟩
              have tx := tx_len gi.2.2
              have l2 : ("[ " : Str).length = 2 := by decide +kernel
              have l3 : (" ]" : Str).length = 2 := by decide +kernel
              have l4 : (("[ " : Str) ++ txP bb).length = 2 + (txP bb).length := by
                rw [TL.len_tl, TL.tl_append, List.length_append, ← TL.len_tl, ← TL.len_tl, l2]
              refine ⟨_, _, rfl, rfl, sl_of (by rw [l2]; omega), _, _, rfl, rfl, sl_of (by rw [l3, l4]; omega), ?_⟩
              exact ⟨congrArg V.str (jn_inner hb0).symm, s5⟩
            · have hb0 : bb = [] := by
                have := hI2.len
                have h9 : ¬ ((0 : Int) < (xs2.length : Int)) := fun z => few (decide_eq_true z)
                exact List.length_eq_zero_iff.mp (by omega)
              refine ⟨?_, Same.refl _⟩
              rw [hb0, jn_empty]
          · rintro v4 H4 ⟨rfl, s4⟩
            refine ⟨D, _, _, rfl, rfl, s4 _ _ hD3, sl_lt (by simp only [List.length_append, List.length_map, List.length_cons, List.length_nil]; omega), ?_⟩
            refine ⟨gs ++ [[("repeat" : Str), ctS m], ([("[" : Str)] ++ (tkP bb ++ [("]" : Str)]))], _, rfl, same_mut (s3.trans s4) nD, ?_, fun g hg => ?_, hgs, by rw [List.length_append]; show _ + 2 ≤ _; omega⟩
            · rw [upd_same, ← e3, List.map_append, List.map_append, List.map_append, List.map_append, List.append_assoc]
              rfl
            · rcases List.mem_append.mp hg with h | h
              · exact hne g h
              · rcases List.mem_cons.mp h with rfl | h
                · simp
                · rw [List.mem_singleton.mp h]
                  simp
      · rintro σ H2 ⟨gs, y, rfl, s2, hD2, hne, hfl, hgl⟩
        rw [hI.len, List.take_length] at hfl
        have tkl := tkP_len hg
        have h1 := piece_len (gs := gs)
        have h2 := sum_le (fun t : Str => t.length + 1) 33 (l := gs.flatten) fun t ht => by
          rw [hfl] at ht
          have := tkl.2 t ht
          omega
        have h3 : gs.flatten.length ≤ 4 * cnP b := by rw [hfl]; exact tkl.1
        refine ⟨⟨_, rfl⟩, _, rfl, " ", D, gs.map jn, rfl, rfl, .inl (SqL.of hD2), ?_, ?_⟩
        · rw [word1, List.length_map]
          have := piece_few hne
          have : gs.flatten.length * 33 ≤ 4 * cnP b * 33 := Nat.mul_le_mul_right _ h3
          omega
        · have e9 : Txt.join " " (gs.map jn) = txP b := (jn_groups hne).trans (congrArg jn hfl)
          rw [e9]
          exact q _ s2
theorem sc__law_is_count : FnScope ["_law_token", "_law_least", "_law_digits", "_law_sign"] ["_law_token", "_law_least"] (defScope s__law_is_count) := ⟨rfl, rfl, rfl, by decide +kernel, rfl, by decide +kernel, by decide +kernel⟩
theorem ok__law_is_count {f : Addr} {fd : FuncData} (F : Fun K "_law_is_count" "_law_is_count" s__law_is_count f fd) (B : Blt mg) : FnOk P w K mg base CX0 1 f fd ["_law_token", "_law_least"] sp__law_is_count := by
  refine F.ok sc__law_is_count (fun vs H Q E h => ?_) (fun cdv A outer s H vs Q E hr h => ?_)
  · obtain ⟨t, m, rfl, _⟩ := h
    rfl
  · obtain ⟨t, m, rfl, hl, hlow, hm, k⟩ := h
    have nd := sc__law_is_count.nd
    have hu2 : (A.deeper (envOfC "_law_is_count" (defScope s__law_is_count) s.heap.objs.size f cdv)).units + 64 < cLine := by
      have := hr.un
      omega
    refine ⟨_, (pss_cons (ps_set (i := 2) nd rfl (.inl rfl) (pe_cut (pe_ifExp (pt_cmpR op_eq (pe_slice sl_str (pv 0) po_none (po_some pe_int)) pe_str (nomark _)) (pe_slice sl_str (pv 0) (po_some pe_int) po_none) (pv 0))))
    (pss_cons (ps_if (PW.pt (pw_or (pt_not (pt_chain op_lt op_lt pe_int (pe_callB call_len_str (by rfl) B.len (by decide +kernel) (pa_cons (pv 2) pa_nil)) pe_int)) (pw_or1 (pt_cmpR (op_neD hu2) (pe_lc (own := [("_law_sign", 3)]) (by rfl) nd (pi_str (pv 2)) (blkOk_by (N := ["_law_token", "_law_least", "_law_digits", "_law_sign"]) (sc := defScope s__law_is_count) (own := [("_law_sign", 3)]) (by decide +kernel)) (fun _ _ _ _ _ => (pg_name (i := 3) nd rfl (.inl rfl))) (fun _ _ _ _ _ => (pts_one (pt_cmpR op_notIn_sign (pv 3) pe_str rfl))) (fun _ _ _ _ _ => (pv 3))) (pe_lst pa_nil) (nomark _)))))
      (pss_one (ps_ret pe_bl))
      pss_nil)
    (pss_one (ps_ret (pe_and (pe_or (pe_cmpR op_ne (pe_ix ix_str (pv 2) pe_int (fun _ _ => rfl)) pe_str (nomark _)) (pe_one (pe_cmpR op_eq (pv 0) pe_str (nomark _)))) (pe_one (pe_chain op_le op_le (pv 1) (pe_callTy call_int_str (by rfl) B.int (by decide +kernel) (pa_cons (pv 0) pa_nil)) (pe_op op_pow pe_int pe_int)))))))), ?_⟩
    have dgs := dg_short (TL.tl t)
    have ltl := TL.len_tl t
    -- the signs behind the minus sign
    refine ⟨fun d H1 => ∃ z : Str, d = .str z ∧ H1 = H ∧ TL.tl z = dgL (TL.tl t), ?_, ?_⟩
    · refine ⟨_, rfl, _, rfl, t, rfl, sl_of (by omega), ?_⟩
      refine ⟨rfl, _, rfl, ?_⟩
      by_cases hn : isNeg (TL.tl t) = true
      · refine iteS (show V.str (cutS t none (some 1)) = V.str "-" by rw [(cut_minus t).mpr hn]) ?_
        refine ⟨_, rfl, _, rfl, t, rfl, sl_of (by omega), _, rfl, rfl, cut_less hn⟩
      · refine iteN (fun z => hn ((cut_minus t).mp (V.str.inj z))) ?_
        exact ⟨_, rfl, _, rfl, rfl, (dg_pos hn).symm⟩
    rintro d H1 ⟨z, rfl, rfl, hz⟩
    have dn : z.length = (dgL (TL.tl t)).length := by rw [TL.len_tl, hz]
    refine ⟨_, rfl, ?_⟩
    have bad : ¬ CtOk (TL.tl t) → ∀ H', Same H1 H' → Q (.bl false) H' := fun n H' s' => by
      have := k H' s'
      unfold ctB ctOf at this
      rw [if_neg fun z => n z.1] at this
      exact this
    refine ⟨_, rfl, sl_of (by omega), _, _, rfl, rfl, _, rfl, ?_⟩
    by_cases h0 : z.length = 0
    · refine iteN (by omega) ⟨_, rfl, ?_⟩
      refine iteT ?_
      exact bad (fun y => y.1 (List.length_eq_zero_iff.mp (dn.symm.trans h0))) _ (Same.refl _)
    refine iteS (by omega) ⟨_, _, rfl, rfl, _, rfl, ?_⟩
    by_cases h1 : ¬ z.length < 32
    · rw [decide_eq_false (show ¬ ((z.length : Int) < 32) by omega)]
      refine iteT ?_
      exact bad (fun y => by have := y.2.2.2; omega) _ (Same.refl _)
    rw [decide_eq_true (show ((z.length : Int) < 32) by omega)]
    refine iteF ?_
    dsimp only [tOp, tTest]
    refine lcSignF (z := z) (fun c => !decide (c ∈ ("0123456789" : Str).cps.toList)) (by omega) (fun R h => ⟨_, rfl, h⟩) (fun _ => rfl) (fun c H2 R h => ⟨_, rfl, c, _, rfl, rfl, _, rfl, h⟩) (fun c H2 R h => ⟨_, rfl, h⟩) fun D H2 s2 nD hD => ?_
    refine ⟨Nat.zero_le _, fun D2 nD2 => ?_⟩
    have s3 := same_new nD2 (o := HO.lst [])
    have zl : z.cps.toList = dgL (TL.tl t) := hz
    have sub : ∀ c ∈ dgL (TL.tl t), c < 128 := fun c hc => hlow c (by
      unfold dgL at hc
      split at hc
      · next r e => rw [e]; exact List.mem_cons_of_mem _ hc
      · exact hc)
    have e1 : ((z.cps.toList.filter fun c => !decide (c ∈ ("0123456789" : Str).cps.toList)).map fun c => V.str ⟨#[c]⟩) = (((z.cps.toList.filter fun c => !decide (c ∈ ("0123456789" : Str).cps.toList)).map fun c => (⟨#[c]⟩ : Str)).map V.str) := by
      rw [List.map_map]
      rfl
    rw [e1] at hD
    refine ⟨_, _, dp_strs (s3 _ _ hD), .lst (SqL.of upd_same) .nil, shaped_strs fun x hx => ?_, rfl, _, rfl, ?_⟩
    · obtain ⟨c, hc, rfl⟩ := List.mem_map.mp hx
      have := (List.mem_filter.mp hc).1
      rw [zl] at this
      exact lay_sign (sub c this)
    rw [eqv_nil_strs]
    have s4 := s2.trans s3
    by_cases h2 : ¬ NumText.AllDigits (dgL (TL.tl t))
    · refine iteNN (fun y => h2 ?_) ?_
      · rw [← zl]
        exact (all_digitsF _).mp (List.map_eq_nil_iff.mp y)
      · exact bad (fun y => h2 y.2.1) _ s4
    replace h2 := Decidable.not_not.mp h2
    refine iteNY (by
      rw [zl, (all_digitsF _).mpr h2]
      rfl) ?_
    have hz0 : ∃ c r, dgL (TL.tl t) = c :: r := by
      cases e : dgL (TL.tl t) with
      | nil => rw [e] at dn; exact absurd dn h0
      | cons c r => exact ⟨c, r, rfl⟩
    obtain ⟨c, r, hcr⟩ := hz0
    refine ⟨_, rfl, z, 0, c, rfl, rfl, sl_of (by omega), by rw [zl, hcr]; exact atI_head c r, rfl, ?_⟩
    have v1 : ∀ x : V, x = .bl true → x = .bl true := fun _ h => h
    have fin : ((dgL (TL.tl t)).head? = some 48 → TL.tl t = [48]) → ∀ H', Same H1 H' → Q (.bl (decide (m ≤ ctW (TL.tl t)) && decide (ctW (TL.tl t) ≤ 10 ^ 30))) H' := fun h3 H' s' => by
      have ok : CtOk (TL.tl t) := ⟨by rw [hcr]; simp, h2, h3, by omega⟩
      have := k H' s'
      unfold ctB ctOf at this
      by_cases hc : (ctW (TL.tl t)).natAbs ≤ 10 ^ 30
      · rw [if_pos ⟨ok, hc⟩] at this
        rw [decide_eq_true (show ctW (TL.tl t) ≤ 10 ^ 30 by omega), Bool.and_true]
        exact this
      · rw [if_neg fun y => hc y.2] at this
        rw [show (decide (m ≤ ctW (TL.tl t)) && decide (ctW (TL.tl t) ≤ 10 ^ 30)) = false by
          rw [Bool.and_eq_false_iff, decide_eq_false_iff_not, decide_eq_false_iff_not]
          omega]
        exact this
    have ok0 : ((dgL (TL.tl t)).head? = some 48 → TL.tl t = [48]) → CtOk (TL.tl t) := fun h3 => ⟨by rw [hcr]; simp, h2, h3, by omega⟩
    have tz : t = "0" ↔ TL.tl t = [48] := ⟨fun y => by rw [y]; exact tl_zero, fun y => TL.ext_tl (y.trans tl_zero.symm)⟩
    have chain : ((dgL (TL.tl t)).head? = some 48 → TL.tl t = [48]) → ∀ H', Same H1 H' → tChain (rI0 fun i j => V.bl (decide (i ≤ j))) (rI0 fun i j => V.bl (decide (i ≤ j))) (tVar 1) (tCB (fun xs H Q => ∃ a n, xs = [V.str a] ∧ intText? a = some n ∧ a.length ≤ 640 ∧ Q (V.int n) H) (tCons (tVar 0) tNil)) (tOp (rI CPow fun i j => V.int (i ^ j.toNat)) (tC (V.int 10)) (tC (V.int 30))) [some (.str t), some (.int m), some (.str z), none] H' Q := fun h3 H' s' => by
      have ci := ct_int (ok0 h3)
      refine ⟨_, rfl, _, rfl, t, _, rfl, ci.1, by omega, _, _, rfl, rfl, _, rfl, ?_⟩
      have := fin h3 H' s'
      by_cases hm2 : m ≤ ctW (TL.tl t)
      · refine iteS hm2 ?_
        refine ⟨_, _, rfl, rfl, ⟨by decide, by decide, by decide⟩, _, _, rfl, rfl, ?_⟩
        rw [decide_eq_true hm2, Bool.true_and] at this
        exact this
      · refine iteN hm2 ?_
        rw [decide_eq_false hm2, Bool.false_and] at this
        exact this
    have hh : (dgL (TL.tl t)).head? = some c := by rw [hcr]; rfl
    have one : V.str ⟨#[c]⟩ = V.str "0" ↔ c = 48 := by
      constructor
      · intro y
        have := congrArg TL.tl (V.str.inj y)
        rw [tl_zero] at this
        exact (List.cons.inj this).1
      · rintro rfl
        exact congrArg V.str (TL.ext_tl tl_zero.symm)
    by_cases hc : c = 48
    · refine ⟨_, rfl, iteNY (one.mpr hc) ?_⟩
      refine ⟨_, rfl, rfl, _, rfl, ?_⟩
      by_cases ht : t = "0"
      · exact iteS (by rw [ht]) (chain (fun _ => tz.mp ht) _ s4)
      · exact iteN (fun y => ht (V.str.inj y)) (bad (fun y => ht (tz.mpr (y.2.2.1 (by rw [hh, hc])))) _ s4)
    · refine ⟨_, rfl, iteNN (fun y => hc (one.mp y)) ?_⟩
      exact ⟨_, rfl, iteT (chain (fun y => absurd (Option.some.inj (hh.symm.trans y)) hc) _ s4)⟩
theorem sc__law_read : FnScope ["_law_text_here", "_law_tokens", "_law_word", "_law_wanted", "_law_bodies", "_law_rounds", "_law_instructions", "_law_repeats", "_law_at", "_law_token", "_law_body_here"] ["_law_text_here"] (defScope s__law_read) := ⟨rfl, rfl, rfl, by decide +kernel, rfl, by decide +kernel, by decide +kernel⟩
theorem ok__law_read {f : Addr} {fd : FuncData} (F : Fun K "_law_read" "_law_read" s__law_read f fd) (B : Blt mg) (C__law_is_count : Cal P w K mg base 1 "_law_is_count" sp__law_is_count) : FnOk P w K mg base CX0 2 f fd ["_law_text_here"] (sp__law_read K) := by
  refine F.ok sc__law_read (fun vs H Q E h => ?_) (fun cdv A outer s H vs Q E hr h => ?_)
  · obtain ⟨t, rfl, _⟩ := h
    rfl
  · obtain ⟨t, rfl, hl, hlow, q⟩ := h
    have nd := sc__law_read.nd
    have hu2 : (A.deeper (envOfC "_law_read" (defScope s__law_read) s.heap.objs.size f cdv)).units + 64 < cLine := by
      have := hr.un
      omega
    refine ⟨_, (pss_cons (ps_par3 (i := 1) (j := 2) (l := 3) (by rfl) nd rfl rfl rfl (by decide) (by decide) (by decide) rfl rfl rfl (pa_cons (pe_cut (pe_ifExp (pt_cmpR op_ne (pv 0) pe_str (nomark _)) (pe_split (pv 0) pe_str) (pe_lst pa_nil))) (pa_cons pe_str (pa_cons pe_str pa_nil))) (by rfl))
    (pss_cons (ps_asg (pe_tup (pa_cons (pe_lst (pa_cons (pe_lst pa_nil) pa_nil)) (pa_cons (pe_lst pa_nil) (pa_cons pe_int (pa_cons pe_int pa_nil))))) (pg_tup rfl (pgs_cons (pg_name (i := 4) nd rfl (.inl rfl)) (pgs_cons (pg_name (i := 5) nd rfl (.inl rfl)) (pgs_cons (pg_name (i := 6) nd rfl (.inl rfl)) (pgs_cons (pg_name (i := 7) nd rfl (.inl rfl)) pgs_nil))))))
    (pss_cons (ps_for PassesOwn.never rfl (pi_enum (by rfl) B.enumerate (pa_cons (pv 1) pa_nil)) (pg_tup rfl (pgs_cons (pg_name (i := 8) nd rfl (.inl rfl)) (pgs_cons (pg_name (i := 9) nd rfl (.inl rfl)) pgs_nil)))
      (pss_one (ps_if (PW.pt (pw_and (pt_cmpR op_eq (pv 3) pe_str (nomark _)) (pw_and1 (pt_val (pe_c C__law_is_count hr (by decide) (by rfl) (pa_cons (pv 9) (pa_cons (pe_ifExp (pt_cmpR op_eq (pv 2) pe_str (nomark _)) pe_int (pe_op op_sub pe_int (pe_op op_pow pe_int pe_int))) pa_nil)))))))
      (pss_cons (ps_set (i := 3) nd rfl (.inl rfl) (pe_ifExp (pt_cmpR op_eq (pv 2) pe_str (nomark _)) pe_str pe_str))
    (pss_one (ps_if (pt_cmpR op_eq (pv 2) pe_str (nomark _))
      (pss_one (ps_expr (pe_bm PySem.F.plainAttrs_list PySem.F.slot_list_append PySem.F.type_list_append mt_append (pv 5) (pa_cons (pe_callTy call_int_str (by rfl) B.int (by decide +kernel) (pa_cons (pv 9) pa_nil)) pa_nil))))
      (pss_one (ps_expr (pe_bm PySem.F.plainAttrs_list PySem.F.slot_list_append PySem.F.type_list_append mt_append (pe_ix ix_list (pv 4) (pe_un un_neg pe_int) (fun _ _ => rfl)) (pa_cons (pe_tup (pa_cons (pv 2) (pa_cons (pe_callTy call_int_str (by rfl) B.int (by decide +kernel) (pa_cons (pv 9) pa_nil)) pa_nil))) pa_nil)))))))
      (pss_one (ps_if (PW.pt (pw_and (pt_cmpR op_eq (pv 3) pe_str (nomark _)) (pw_and1 (pt_cmpR op_eq (pv 9) pe_str (nomark _)))))
      (pss_cons (ps_expr (pe_bm PySem.F.plainAttrs_list PySem.F.slot_list_append PySem.F.type_list_append mt_append (pv 4) (pa_cons (pe_lst pa_nil) pa_nil)))
    (pss_one (ps_set (i := 3) nd rfl (.inl rfl) pe_str)))
      (pss_one (ps_if (PW.pt (pw_and (pt_cmpR op_eq (pv 3) pe_str (nomark _)) (pw_and (pt_cmpR op_eq (pv 9) pe_str (nomark _)) (pw_and1 (pt_cmpR (op_neD hu2) (pv 5) (pe_lst pa_nil) (nomark _))))))
      (pss_cons (ps_set (i := 10) nd rfl (.inl rfl) (pe_bm0 PySem.F.plainAttrs_list PySem.F.slot_list_pop PySem.F.type_list_pop mt_pop (pv 4)))
    (pss_one (ps_expr (pe_bm PySem.F.plainAttrs_list PySem.F.slot_list_append PySem.F.type_list_append mt_append (pe_ix ix_list (pv 4) (pe_un un_neg pe_int) (fun _ _ => rfl)) (pa_cons (pe_tup (pa_cons pe_str (pa_cons (pe_bm0 PySem.F.plainAttrs_list PySem.F.slot_list_pop PySem.F.type_list_pop mt_pop (pv 5)) (pa_cons (pv 10) pa_nil)))) pa_nil)))))
      (pss_one (ps_if (PW.pt (pw_and (pt_cmpR op_eq (pv 3) pe_str (nomark _)) (pw_and (pt_cmpR op_in_seq (pv 9) (pe_tup (pa_cons pe_str (pa_cons pe_str (pa_cons pe_str pa_nil)))) rfl) (pw_and1 (pt_cmpR op_lt (pv 6) pe_int (nomark _))))))
      (pss_cons (ps_cut (ps_if (PW.pt (pw_and (pt_cmpR op_eq (pv 9) pe_str (nomark _)) (pw_and1 (PW.pt (pw_or (pt_cmpR op_eq (pv 7) pe_int (nomark _)) (pw_or1 (pt_cmpR op_eq (pe_callB call_len_seq (by rfl) B.len (by decide +kernel) (pa_cons (pv 5) pa_nil)) pe_int (nomark _))))))))
      (pss_one (ps_ret (pe_lst (pa_cons pe_str (pa_cons (pv 8) pa_nil)))))
      pss_nil))
    (pss_cons (ps_par3 (i := 2) (j := 3) (l := 6) (by rfl) nd rfl rfl rfl (by decide) (by decide) (by decide) rfl rfl rfl (pa_cons (pv 9) (pa_cons pe_str (pa_cons (pe_op op_add (pv 6) pe_int) pa_nil))) (by rfl))
    (pss_one (ps_set (i := 7) nd rfl (.inl rfl) (pe_op op_add (pv 7) (pe_callTy call_int1 (by rfl) B.int (by decide +kernel) (pa_cons (pe_cmpR op_eq (pv 9) pe_str (nomark _)) pa_nil)))))))
      (pss_one (ps_ret (pe_lst (pa_cons pe_str (pa_cons (pv 8) pa_nil))))))))))))))
    (pss_one (ps_ret (pe_ifExp (PW.pt (pw_and (pt_cmpR op_eq (pv 3) pe_str (nomark _)) (pw_and1 (pt_cmpR (op_eqD hu2) (pv 5) (pe_lst pa_nil) (nomark _))))) (pe_lst (pa_cons pe_str (pa_cons (pe_ix ix_list (pv 4) pe_int (fun _ _ => rfl)) pa_nil))) (pe_lst (pa_cons pe_str (pa_cons (pe_callB call_len_seq (by rfl) B.len (by decide +kernel) (pa_cons (pv 1) pa_nil)) pa_nil))))))))), ?_⟩
    have few := tks_few t
    refine ⟨fun v H1 => ∃ TO, v = .ref TO ∧ H TO = none ∧ H1 = upd H TO (.lst ((tksOf t).map V.str)), ?_, ?_⟩
    · have z0 : t.length = 0 ↔ t = "" := by
        rw [TL.len_tl, List.length_eq_zero_iff]
        exact ⟨fun z => TL.ext_tl (z.trans (by decide +kernel : TL.tl ("" : Str) = []).symm), fun z => by rw [z]; decide +kernel⟩
      refine ⟨_, rfl, rfl, _, rfl, ?_⟩
      by_cases h0 : t = ""
      · refine iteNY (by rw [h0]) ?_
        refine ⟨Nat.zero_le _, fun D nD => ⟨D, rfl, nD, ?_⟩⟩
        unfold tksOf
        rw [if_pos (z0.mpr h0)]
        rfl
      · refine iteNN (fun y => h0 (V.str.inj y)) ?_
        refine ⟨_, rfl, ⟨_, rfl⟩, t, _, rfl, rfl, by decide +kernel, sl_of (by omega), fun D nD => ⟨D, rfl, nD, ?_⟩⟩
        unfold tksOf
        rw [if_neg fun y => h0 (z0.mp y)]
    rintro v HT ⟨TO, rfl, nTO, rfl⟩
    have sT := same_new nTO (o := HO.lst ((tksOf t).map V.str))
    have hTO : (upd H TO (.lst ((tksOf t).map V.str))) TO = some (.lst ((tksOf t).map V.str)) := upd_same
    refine ⟨_, _, _, rfl, ?_⟩
    refine ⟨Nat.zero_le _, fun b0 nb0 => ?_⟩
    have s1 := same_new nb0 (o := HO.lst [])
    refine ⟨sl_of (show 1 ≤ 1000000 by decide), fun BO nBO => ?_⟩
    have s2 := same_new nBO (o := HO.lst [V.ref b0])
    refine ⟨Nat.zero_le _, fun RO nRO => ?_⟩
    have s3 := same_new nRO (o := HO.lst [])
    refine ⟨sl_of (show 4 ≤ 1000000 by decide), fun tt ntt => ?_⟩
    have s4 := same_new ntt (o := HO.tup [V.ref BO, V.ref RO, V.int 0, V.int 0])
    refine ⟨tt, _, rfl, SqT.of upd_same, rfl, _, _, rfl, _, _, rfl, _, _, rfl, _, _, rfl, rfl, ?_⟩
    have L0 : LR K (upd H TO (.lst ((tksOf t).map V.str))) (upd (upd (upd (upd (upd H TO (.lst ((tksOf t).map V.str))) b0 (.lst [])) BO (.lst [V.ref b0])) RO (.lst [])) tt (.tup [V.ref BO, V.ref RO, V.int 0, V.int 0])) BO RO [b0] 0 mInit := by
      have hb0 : (upd (upd H TO (.lst ((tksOf t).map V.str))) b0 (.lst [])) b0 = some (.lst []) := upd_same
      have hBO : (upd (upd (upd H TO (.lst ((tksOf t).map V.str))) b0 (.lst [])) BO (.lst [V.ref b0])) BO = some (.lst [V.ref b0]) := upd_same
      refine ⟨s4 _ _ (s3 _ _ hBO), s4 _ _ upd_same, .cons (s4 _ _ (s3 _ _ (s2 _ _ hb0))) .nil .nil, ?_, ?_, s1.trans (s2.trans (s3.trans s4)), by decide, by decide, ?_⟩
      · have n1 : BO ≠ b0 := fun z => by rw [z, hb0] at nBO; cases nBO
        have n2 : RO ≠ BO := fun z => by rw [z, hBO] at nRO; cases nRO
        have n3 : RO ≠ b0 := fun z => by rw [z, s2 _ _ hb0] at nRO; cases nRO
        simp [n1, n2.symm, n3]
      · intro a ha
        simp only [List.mem_cons, List.not_mem_nil, or_false] at ha
        rcases ha with rfl | rfl | rfl
        · exact s1.free nBO
        · exact (s1.trans s2).free nRO
        · exact nb0
      · intro x hx
        simp [mInit] at hx
        rw [hx]
        exact Nat.zero_le _
    refine ⟨_, rfl, TO, _, rfl, SqL.of ((s1.trans (s2.trans (s3.trans s4))) _ _ hTO), for_it (walk_enum (K := K) (a := TO) (xs := (tksOf t).map V.str)) (fun m σ H2 => ∃ (S : Mst) (wd : Str) (bs : List Addr) (y8 y9 y10 : Option V), σ = [some (.str t), some (.ref TO), some (.str wd), some (.str (wantT S.w)), some (.ref BO), some (.ref RO), some (.int S.n), some (.int S.r), y8, y9, y10] ∧ LR K (upd H TO (.lst ((tksOf t).map V.str))) H2 BO RO bs m S ∧ wdOk S.w wd ∧ mrun (tksOf t) 0 mInit = mrun ((tksOf t).drop m) m S) ⟨mInit, _, [b0], none, none, none, rfl, L0, trivial, rfl⟩ ?_ ?_ ?_⟩
    · rintro m σ H2 _ ⟨S, wd, bs, y8, y9, y10, _, L, _⟩
      exact SqL.of (L.sm _ _ hTO)
    · rintro m v σ H2 _ hm ⟨S, wd, bs, y8, y9, y10, rfl, L2, hwd, hrun⟩ ⟨e, x, y, rfl, ne, rfl, hx, hy⟩
      obtain rfl : x = V.int (m : Int) := (Option.some.inj hx).symm
      obtain ⟨tok, htok, rfl⟩ : ∃ tok, (tksOf t)[m]? = some tok ∧ y = V.str tok := by
        have hy' : ((tksOf t).map V.str)[m]? = some y := hy
        rw [List.getElem?_map] at hy'
        cases g : (tksOf t)[m]? with
        | none => rw [g] at hy'; cases hy'
        | some u => rw [g] at hy'; cases hy'; exact ⟨u, rfl, rfl⟩
      have se := same_new ne (o := HO.tup [V.int (m : Int), V.str tok])
      have L := L2.same se
      have tmem := List.mem_of_getElem? htok
      have tlen := tks_short tmem
      have tlow := low_tks hlow tmem
      have hml : m < (tksOf t).length := (List.getElem?_eq_some_iff.mp htok).1
      refine ⟨e, _, rfl, SqT.of upd_same, rfl, _, _, rfl, _, _, rfl, rfl, ?_⟩
      -- where a token cannot stand
      have err : mstep tok S = none → ∀ H3, Same (upd H TO (.lst ((tksOf t).map V.str))) H3 → ∀ D, H3 D = none → Q (.ref D) (upd H3 D (.lst [V.str "error", V.int (m : Int)])) := fun hs H3 s3 D nD => by
        refine q D _ (sT.trans (s3.trans (same_new nD))) ?_
        rw [hrun, mrun_stop htok hs]
        exact .lst (SqL.of upd_same) (.cons (.str _) (.cons (.int _) .nil))
      obtain ⟨w0, cur, stk, n, r⟩ := S
      cases w0 with
      | count w0 =>
        obtain ⟨rfl, hw0⟩ := hwd
        refine ⟨_, rfl, rfl, _, rfl, iteS rfl ?_⟩
        -- no count: nothing else fits
        have noct : ∀ H3, Same (upd H2 e (HO.tup [V.int (m : Int), V.str tok])) H3 → mstep tok ⟨.count wd, cur, stk, n, r⟩ = none → ∀ D, H3 D = none → Q (.ref D) (upd H3 D (.lst [V.str "error", V.int (m : Int)])) := fun H3 s3 hs => err hs H3 (L.sm.trans s3)
        by_cases hrep : wd = "repeat"
        · subst hrep
          refine ⟨_, rfl, _, rfl, rfl, _, rfl, iteS rfl ?_⟩
          refine ⟨tok, _, rfl, by omega, tlow, by decide, fun H3 s3 => ?_⟩
          have L3 := L.same s3
          refine ⟨_, rfl, ite2 (fun hb => ?_) fun hb => ?_⟩
          · obtain ⟨c, hc, h0⟩ := ctB_at hb
            obtain ⟨ci, cl, cb⟩ := ctOf_some hc
            have go : mstep tok ⟨.count "repeat", cur, stk, n, r⟩ = some ⟨.bracket c, cur, stk, n, r⟩ := by
              unfold mstep
              dsimp only
              rw [hc]
              dsimp only
              rw [if_pos rfl, if_neg (by omega)]
            refine ⟨_, rfl, rfl, _, rfl, iteS rfl ?_⟩
            refine ⟨_, rfl, rfl, _, rfl, iteS rfl ?_⟩
            have few2 : (stk.map (·.2)).length ≤ 1000000 - 1 := by
              have := L3.dp
              rw [List.length_map]
              change stk.length + _ ≤ 2 at this
              omega
            refine ⟨_, rfl, .inl ⟨rfl, _, SqL.of L3.ro⟩, _, rfl, tok, c, rfl, ci, cl, RO, _, _, rfl, rfl, L3.ro, sl_lt (by
              show ((stk.map (·.2)).reverse.map V.int).length ≤ _
              rw [List.length_map, List.length_reverse]
              omega), ?_⟩
            exact ⟨⟨.bracket c, cur, stk, n, r⟩, _, bs, _, _, _, rfl, (L3.round).up (Nat.le_succ m), rfl, by rw [hrun, mrun_at htok go]⟩
          · have hs : mstep tok ⟨.count "repeat", cur, stk, n, r⟩ = none := by
              unfold mstep
              dsimp only
              cases hc : ctOf tok with
              | none => rfl
              | some c =>
                dsimp only
                rw [if_pos rfl, if_pos (ctB_no hb hc)]
            refine ⟨_, rfl, rfl, _, rfl, iteN v_cb ?_⟩
            refine iteF ?_
            refine ⟨_, rfl, rfl, _, rfl, iteN v_cw ?_⟩
            refine iteF ?_
            refine ⟨_, rfl, rfl, _, rfl, iteN v_cw ?_⟩
            refine iteF ?_
            exact ⟨_, rfl, sl_of (show 2 ≤ 1000000 by decide), noct H3 s3 hs⟩
        · refine ⟨_, rfl, _, rfl, rfl, _, rfl, iteN (fun z => hrep (V.str.inj z)) ?_⟩
          refine ⟨_, _, rfl, rfl, ⟨by decide, by decide, by decide⟩, _, _, rfl, rfl, ?_⟩
          refine ⟨tok, _, rfl, by omega, tlow, by decide, fun H3 s3 => ?_⟩
          have L3 := L.same s3
          refine ⟨_, rfl, ite2 (fun hb => ?_) fun hb => ?_⟩
          · obtain ⟨c, hc, h0⟩ := ctB_at hb
            obtain ⟨ci, cl, cb⟩ := ctOf_some hc
            have go : mstep tok ⟨.count wd, cur, stk, n, r⟩ = some ⟨.word, cur ++ [if wd = "step" then .step c else .turn c], stk, n, r⟩ := by
              unfold mstep
              dsimp only
              rw [hc]
              dsimp only
              rw [if_neg hrep]
            refine ⟨_, rfl, rfl, _, rfl, iteN (fun z => hrep (V.str.inj z)) ?_⟩
            refine ⟨_, rfl, rfl, _, rfl, iteN (fun z => hrep (V.str.inj z)) ?_⟩
            obtain ⟨b, bs', ys, rfl, hb', hyl, hat⟩ := L3.head
            refine ⟨_, rfl, _, rfl, BO, _, _, _, rfl, rfl, SqL.of L3.bo, hat, .inl ⟨rfl, _, SqL.of hb'⟩, _, rfl, _, rfl, tok, c, rfl, ci, cl, sl_of (show 2 ≤ 1000000 by decide), fun T nT => ?_⟩
            have s5 := same_new nT (o := HO.tup [V.str wd, V.int c])
            refine ⟨b, ys, _, rfl, rfl, s5 _ _ hb', sl_lt (by omega), ?_⟩
            have hi : NwI K (Opn (BO :: RO :: b :: bs')) (upd H3 T (.tup [V.str wd, V.int c])) (.ref T) (if wd = "step" then .step c else .turn c) := by
              rcases hw0 with rfl | rfl | rfl
              · rw [if_pos rfl]
                exact .step (SqT.of upd_same)
              · rw [if_neg words_apart.2.2.1]
                exact .turn (SqT.of upd_same)
              · exact absurd rfl hrep
            exact ⟨⟨.word, cur ++ [if wd = "step" then .step c else .turn c], stk, n, r⟩, _, b :: bs', _, _, _, rfl, L3.ins rfl nT hb' hi, trivial, by rw [hrun, mrun_at htok go]⟩
          · have hs : mstep tok ⟨.count wd, cur, stk, n, r⟩ = none := by
              unfold mstep
              dsimp only
              cases hc : ctOf tok with
              | none => rfl
              | some c =>
                have hb1 : ¬ ctB tok (-(10 ^ 30)) = true := hb
                have := ctB_no hb1 hc
                have := (ctOf_some hc).2.2
                exact absurd this (by omega)
            refine ⟨_, rfl, rfl, _, rfl, iteN v_cb ?_⟩
            refine iteF ?_
            refine ⟨_, rfl, rfl, _, rfl, iteN v_cw ?_⟩
            refine iteF ?_
            refine ⟨_, rfl, rfl, _, rfl, iteN v_cw ?_⟩
            refine iteF ?_
            exact ⟨_, rfl, sl_of (show 2 ≤ 1000000 by decide), noct H3 s3 hs⟩
      | bracket c =>
        obtain rfl := hwd
        refine ⟨_, rfl, rfl, _, rfl, iteN v_bc ?_⟩
        refine iteF ?_
        refine ⟨_, rfl, rfl, _, rfl, iteS rfl ?_⟩
        by_cases hbr : tok = "["
        · have go : mstep tok ⟨.bracket c, cur, stk, n, r⟩ = some ⟨.word, [], (cur, c) :: stk, n, r⟩ := by
            unfold mstep
            dsimp only
            rw [if_pos hbr]
          refine ⟨_, rfl, rfl, _, rfl, iteS (by rw [hbr]) ?_⟩
          have hbl := L.bsl
          have hdp := L.dp
          change stk.length + 1 ≤ 2 at hdp
          refine ⟨_, rfl, .inl ⟨rfl, _, SqL.of L.bo⟩, Nat.zero_le _, fun D nD => ?_⟩
          have s5 := same_new nD (o := HO.lst [])
          refine ⟨BO, _, _, rfl, rfl, s5 _ _ L.bo, sl_lt (by
            rw [List.length_map, List.length_reverse, hbl]
            show stk.length + 1 ≤ 1000000
            omega), ?_⟩
          exact ⟨⟨.word, [], (cur, c) :: stk, n, r⟩, _, D :: bs, _, _, _, rfl, (L.push nD).up (Nat.le_succ m), trivial, by rw [hrun, mrun_at htok go]⟩
        · have hs : mstep tok ⟨.bracket c, cur, stk, n, r⟩ = none := by
            unfold mstep
            dsimp only
            rw [if_neg hbr]
          refine ⟨_, rfl, rfl, _, rfl, iteN (fun z => hbr (V.str.inj z)) ?_⟩
          refine ⟨_, rfl, rfl, _, rfl, iteN v_bw ?_⟩
          refine iteF ?_
          refine ⟨_, rfl, rfl, _, rfl, iteN v_bw ?_⟩
          refine iteF ?_
          exact ⟨_, rfl, sl_of (show 2 ≤ 1000000 by decide), err hs _ L.sm⟩
      | word =>
        refine ⟨_, rfl, rfl, _, rfl, iteN v_wc ?_⟩
        refine iteF ?_
        refine ⟨_, rfl, rfl, _, rfl, iteN v_wb ?_⟩
        refine iteF ?_
        refine ⟨_, rfl, rfl, _, rfl, iteS rfl ?_⟩
        have hro : (upd H2 e (HO.tup [V.int (m : Int), V.str tok])) RO = some (.lst ((stk.map (·.2)).reverse.map V.int)) := L.ro
        by_cases hcl : tok = "]"
        · refine ⟨_, rfl, rfl, _, rfl, iteS (by rw [hcl]) ?_⟩
          refine ⟨_, rfl, Nat.zero_le _, fun D nD => ?_⟩
          have s5 := same_new nD (o := HO.lst [])
          refine ⟨_, _, .lst (SqL.of (s5 _ _ hro)) (kl_dp _), .lst (SqL.of upd_same) .nil, kl_shaped _, rfl, _, rfl, ?_⟩
          rw [eqv_nil_ints]
          have L5 := L.same s5
          cases stk with
          | nil =>
            refine iteNY rfl ?_
            have hs : mstep tok ⟨.word, cur, [], n, r⟩ = none := by
              unfold mstep mword
              dsimp only
              rw [hcl, if_pos (.inl shut_not)]
            refine ⟨_, rfl, rfl, _, rfl, iteS rfl ?_⟩
            refine ⟨_, rfl, sl_of (show 3 ≤ 1000000 by decide), fun tw ntw => ?_⟩
            have s6 := same_new ntw (o := HO.tup [V.str "step", V.str "turn", V.str "repeat"])
            refine ⟨tw, _, rfl, .inr (SqT.of upd_same), rfl, rfl, inV (V.str tok) [V.str "step", V.str "turn", V.str "repeat"], rfl, ?_⟩
            rw [word_in3]
            refine iteN (by rw [hcl]; exact shut_not) ?_
            refine iteF ?_
            exact ⟨_, rfl, sl_of (show 2 ≤ 1000000 by decide), err hs _ (L5.sm.trans s6)⟩
          | cons oc rest =>
            obtain ⟨o, c⟩ := oc
            refine iteNN (by simp) ?_
            have go : mstep tok ⟨.word, cur, (o, c) :: rest, n, r⟩ = some ⟨.word, o ++ [.rep c cur], rest, n, r⟩ := by
              unfold mstep
              dsimp only
              rw [if_pos hcl]
            have hbl := L5.bsl
            obtain ⟨a, b, bs', rfl⟩ : ∃ a b bs', bs = a :: b :: bs' := by
              match bs, hbl with
              | a :: b :: bs', _ => exact ⟨a, b, bs', rfl⟩
            have hBO := L5.bo
            rw [rev_refs] at hBO
            have hRO := L5.ro
            rw [show rsOf ⟨.word, cur, (o, c) :: rest, n, r⟩ = c :: rest.map (·.2) from rfl, rev_ints] at hRO
            obtain ⟨a1, a2, a3, a4⟩ := L5.apart
            have hb5 : ∃ ys, (upd (upd H2 e (HO.tup [V.int (m : Int), V.str tok])) D (.lst [])) b = some (.lst ys) ∧ ys.length ≤ m := by
              have hbd := L5.bd
              cases hbd with
              | cons h q t =>
                cases t with
                | cons h2 q2 t2 => exact ⟨_, h2, by rw [q2.len]; exact L5.sz _ (by simp)⟩
            obtain ⟨ys, hb5, hyl⟩ := hb5
            have bB : b ≠ BO := fun z => a2 (z ▸ List.mem_cons_of_mem _ List.mem_cons_self)
            have bR : b ≠ RO := fun z => a3 (z ▸ List.mem_cons_of_mem _ List.mem_cons_self)
            refine ⟨_, rfl, .inl ⟨rfl, _, SqL.of hBO⟩, BO, _, _, rfl, rfl, hBO, last_of _ _, ?_⟩
            rw [List.dropLast_concat]
            have hRO6 : (upd (upd (upd H2 e (HO.tup [V.int (m : Int), V.str tok])) D (.lst [])) BO (.lst ((b :: bs').reverse.map V.ref))) RO = some (.lst ((rest.map (·.2)).reverse.map V.int ++ [V.int c])) := by
              rw [upd_ne a1.symm]
              exact hRO
            have hb6 : (upd (upd (upd H2 e (HO.tup [V.int (m : Int), V.str tok])) D (.lst [])) BO (.lst ((b :: bs').reverse.map V.ref))) b = some (.lst ys) := by
              rw [upd_ne bB]
              exact hb5
            refine ⟨_, rfl, _, rfl, BO, _, _, V.ref b, rfl, rfl, SqL.of upd_same, (by rw [rev_refs]; exact atI_last _ _), .inl ⟨rfl, _, SqL.of hb6⟩, _, rfl, .inl ⟨rfl, _, SqL.of hRO6⟩, RO, _, _, rfl, rfl, hRO6, last_of _ _, ?_⟩
            rw [List.dropLast_concat]
            have hb7 : (upd (upd (upd (upd H2 e (HO.tup [V.int (m : Int), V.str tok])) D (.lst [])) BO (.lst ((b :: bs').reverse.map V.ref))) RO (.lst ((rest.map (·.2)).reverse.map V.int))) b = some (.lst ys) := by
              rw [upd_ne bR]
              exact hb6
            refine ⟨_, rfl, sl_of (show 3 ≤ 1000000 by decide), fun T nT => ?_⟩
            refine ⟨b, ys, _, rfl, rfl, same_new nT _ _ hb7, sl_lt (by omega), ?_⟩
            exact ⟨⟨.word, o ++ [.rep c cur], rest, n, r⟩, _, b :: bs', _, _, _, rfl, L5.shut hb5 _ _ rfl rfl nT, trivial, by rw [hrun, mrun_at htok go]⟩
        · refine ⟨_, rfl, rfl, _, rfl, iteN (fun z => hcl (V.str.inj z)) ?_⟩
          refine iteF ?_
          refine ⟨_, rfl, rfl, _, rfl, iteS rfl ?_⟩
          refine ⟨_, rfl, sl_of (show 3 ≤ 1000000 by decide), fun tw ntw => ?_⟩
          have s6 := same_new ntw (o := HO.tup [V.str "step", V.str "turn", V.str "repeat"])
          have L6 := L.same s6
          refine ⟨tw, _, rfl, .inr (SqT.of upd_same), rfl, rfl, inV (V.str tok) [V.str "step", V.str "turn", V.str "repeat"], rfl, ?_⟩
          rw [word_in3]
          have mst : mstep tok ⟨.word, cur, stk, n, r⟩ = mword tok ⟨.word, cur, stk, n, r⟩ := mstep_word (.inl hcl)
          by_cases hw : tok = "step" ∨ tok = "turn" ∨ tok = "repeat"
          rotate_left
          · refine iteN hw ?_
            refine iteF ?_
            exact ⟨_, rfl, sl_of (show 2 ≤ 1000000 by decide), err (by rw [mst]; unfold mword; rw [if_pos (.inl hw)]) _ L6.sm⟩
          refine iteS hw ?_
          have hn100 : n ≤ 100 := L6.n
          refine ⟨_, rfl, _, _, rfl, rfl, _, rfl, ite2 (fun hlt => ?_) fun hlt => ?_⟩
          rotate_left
          · have hn0 : n = 100 := by
              have : ¬ ((n : Int) < 100) := fun z => hlt (decide_eq_true z)
              omega
            exact ⟨_, rfl, sl_of (show 2 ≤ 1000000 by decide), err (by rw [mst]; unfold mword; rw [if_pos (.inr hn0)]) _ L6.sm⟩
          have hn0 : n < 100 := by
            have : (n : Int) < 100 := of_decide_eq_true hlt
            omega
          have g1 : ¬ (¬ (tok = "step" ∨ tok = "turn" ∨ tok = "repeat") ∨ n = 100) := fun z => z.elim (fun y => y hw) (by omega)
          refine ⟨fun σ' H' => σ' = [some (.str t), some (.ref TO), some (.str wd), some (.str "word"), some (.ref BO), some (.ref RO), some (.int (n : Int)), some (.int (r : Int)), some (.int (m : Int)), some (.str tok), y10] ∧ Same (upd (upd H2 e (HO.tup [V.int (m : Int), V.str tok])) tw (.tup [V.str "step", V.str "turn", V.str "repeat"])) H' ∧ (tok = "repeat" → r ≠ 5 ∧ stk.length ≠ 2), ?_, ?_⟩
          · refine ⟨_, rfl, rfl, _, rfl, ?_⟩
            by_cases hrep : tok = "repeat"
            rotate_left
            · refine iteN (fun z => hrep (V.str.inj z)) (iteF ?_)
              exact ⟨rfl, Same.refl _, fun z => absurd z hrep⟩
            refine iteS (by rw [hrep]) ?_
            have stop : (r = 5 ∨ stk.length = 2) → mstep tok ⟨.word, cur, stk, n, r⟩ = none := fun z => by
              rw [mst]
              unfold mword
              rw [if_neg g1, if_pos ⟨hrep, z⟩]
            refine ⟨_, rfl, rfl, _, rfl, ?_⟩
            by_cases h5 : r = 5
            · refine iteS (by rw [h5]; rfl) (iteT ?_)
              exact ⟨_, rfl, sl_of (show 2 ≤ 1000000 by decide), err (stop (.inl h5)) _ L6.sm⟩
            refine iteN (fun z => h5 (by have := V.int.inj z; exact Int.ofNat.inj this)) ?_
            have hlen : ((stk.map (·.2)).reverse.map V.int).length = stk.length := by
              rw [List.length_map, List.length_reverse, List.length_map]
            refine ⟨_, rfl, RO, _, rfl, .inl (SqL.of L6.ro), ?_⟩
            refine ⟨rfl, _, rfl, ?_⟩
            by_cases h2 : stk.length = 2
            · refine iteS (by
                show V.int ((((stk.map (·.2)).reverse.map V.int).length : Nat) : Int) = V.int 2
                rw [hlen, h2]
                rfl) ?_
              exact ⟨_, rfl, sl_of (show 2 ≤ 1000000 by decide), err (stop (.inr h2)) _ L6.sm⟩
            refine iteN (fun z => h2 ?_) ?_
            · have z1 : V.int ((((stk.map (·.2)).reverse.map V.int).length : Nat) : Int) = V.int 2 := z
              rw [hlen] at z1
              exact Int.ofNat.inj (V.int.inj z1)
            · exact ⟨rfl, Same.refl _, fun _ => ⟨h5, h2⟩⟩
          · rintro σ' H' ⟨rfl, s', hok⟩
            have go : mstep tok ⟨.word, cur, stk, n, r⟩ = some ⟨.count tok, cur, stk, n + 1, if tok = "repeat" then r + 1 else r⟩ := by
              rw [mst]
              unfold mword
              rw [if_neg g1, if_neg fun z => by
                have := hok z.1
                rcases z.2 with y | y
                · exact this.1 y
                · exact this.2 y]
            refine ⟨_, rfl, _, rfl, _, _, rfl, rfl, _, _, _, rfl, ?_⟩
            refine ⟨_, rfl, _, rfl, rfl, .inr ⟨_, rfl, _, _, rfl, rfl, ?_⟩⟩
            refine ⟨⟨.count tok, cur, stk, n + 1, if tok = "repeat" then r + 1 else r⟩, tok, bs, some (.int (m : Int)), some (.str tok), y10, ?_, ((L6.same s').want (s' := ⟨.count tok, cur, stk, n + 1, if tok = "repeat" then r + 1 else r⟩) rfl rfl rfl (by show n + 1 ≤ 100; omega) ?_).up (Nat.le_succ m), ⟨rfl, hw⟩, by rw [hrun, mrun_at htok go]⟩
            · by_cases hrep : tok = "repeat"
              · rw [if_pos hrep, decide_eq_true (by rw [hrep])]
                rfl
              · rw [if_neg hrep, decide_eq_false (fun z => hrep (V.str.inj z))]
                rfl
            · have hd : stk.length + 0 ≤ 2 := L6.dp
              show stk.length + (if tok = "repeat" then 1 else 0) ≤ 2
              by_cases hrep : tok = "repeat"
              · have := hok hrep
                rw [if_pos hrep]
                omega
              · rw [if_neg hrep]
                omega
    · rintro σ H2 ⟨S, wd, bs, y8, y9, y10, rfl, L, hwd, hrun⟩
      have hrun2 : mrun (tksOf t) 0 mInit = mend (tksOf t).length S := by
        rw [hrun, List.length_map]
        exact mrun_none (List.getElem?_eq_none (Nat.le_refl _))
      have err : mend (tksOf t).length S = .inl (tksOf t).length → ∀ H3, Same (upd H TO (.lst ((tksOf t).map V.str))) H3 → ∀ D, H3 D = none → Q (.ref D) (upd H3 D (.lst [V.str "error", V.int ((((tksOf t).map V.str).length : Nat) : Int)])) := fun hs H3 s3 D nD => by
        refine q D _ (sT.trans (s3.trans (same_new nD))) ?_
        rw [hrun2, hs, List.length_map]
        exact .lst (SqL.of upd_same) (.cons (.str _) (.cons (.int _) .nil))
      obtain ⟨w0, cur, stk, n, r⟩ := S
      cases w0 with
      | count w0 =>
        refine ⟨_, rfl, rfl, _, rfl, iteN v_cw ?_⟩
        refine iteF ?_
        exact ⟨_, rfl, TO, _, rfl, .inl (SqL.of (L.sm _ _ hTO)), sl_of (show 2 ≤ 1000000 by decide), err rfl _ L.sm⟩
      | bracket c =>
        refine ⟨_, rfl, rfl, _, rfl, iteN v_bw ?_⟩
        refine iteF ?_
        exact ⟨_, rfl, TO, _, rfl, .inl (SqL.of (L.sm _ _ hTO)), sl_of (show 2 ≤ 1000000 by decide), err rfl _ L.sm⟩
      | word =>
        refine ⟨_, rfl, rfl, _, rfl, iteS rfl ?_⟩
        refine ⟨_, rfl, Nat.zero_le _, fun D nD => ?_⟩
        have s5 := same_new nD (o := HO.lst [])
        have L5 := L.same s5
        have hro : (upd H2 D (.lst [])) RO = some (.lst ((stk.map (·.2)).reverse.map V.int)) := L5.ro
        refine ⟨_, _, .lst (SqL.of hro) (kl_dp _), .lst (SqL.of upd_same) .nil, kl_shaped _, rfl, _, rfl, ?_⟩
        rw [eqv_nil_ints]
        cases stk with
        | nil =>
          refine iteS rfl ?_
          have hbl := L5.bsl
          obtain ⟨b, rfl⟩ : ∃ b, bs = [b] := by
            match bs, hbl with
            | [b], _ => exact ⟨b, rfl⟩
          refine ⟨_, rfl, BO, _, _, V.ref b, rfl, rfl, SqL.of L5.bo, rfl, sl_of (show 2 ≤ 1000000 by decide), fun D2 nD2 => ?_⟩
          have s6 := same_new nD2 (o := HO.lst [V.str "program", V.ref b])
          refine q D2 _ (sT.trans (L5.sm.trans s6)) ?_
          rw [hrun2]
          have hbd := L5.bd.same s6
          cases hbd with
          | cons h q' t' => exact .lst (SqL.of upd_same) (.cons (.str _) (.cons (q'.dp h) .nil))
        | cons oc rest =>
          refine iteN (by simp) ?_
          exact ⟨_, rfl, TO, _, rfl, .inl (SqL.of (L5.sm _ _ hTO)), sl_of (show 2 ≤ 1000000 by decide), err rfl _ L5.sm⟩
theorem sc__law_spoilt : FnScope ["_law_pen_here", "_law_text_here", "_law_tokens", "_law_way", "_law_k", "_law_at", "_law_odd", "_law_token", "_law_some"] ["_law_pen_here", "_law_text_here"] (defScope s__law_spoilt) := ⟨rfl, rfl, rfl, by decide +kernel, rfl, by decide +kernel, by decide +kernel⟩
theorem ok__law_spoilt {f : Addr} {fd : FuncData} (F : Fun K "_law_spoilt" "_law_spoilt" s__law_spoilt f fd) (B : Blt mg) (C__law_draw : Cal P w K mg base 1 "_law_draw" sp__law_draw) (C__law_pick : Cal P w K mg base 2 "_law_pick" sp__law_pick) (C__law_pickS : Cal P w K mg base 2 "_law_pick" sp__law_pickS) : FnOk P w K mg base CX0 3 f fd ["_law_pen_here", "_law_text_here"] sp__law_spoilt := by
  refine F.ok sc__law_spoilt (fun vs H Q E h => ?_) (fun cdv A outer s H vs Q E hr h => ?_)
  · obtain ⟨p, c, t, n, rfl, _⟩ := h
    rfl
  · obtain ⟨p, c, t, n, rfl, pen, hn, hl, hlow, q⟩ := h
    have nd := sc__law_spoilt.nd
    refine ⟨_, (pss_cons (ps_par (i := 2) (j := 3) (by rfl) nd rfl rfl (by decide) rfl rfl (pa_cons (pe_split (pv 1) pe_str) (pa_cons (pe_c C__law_draw hr (by decide) (by rfl) (pa_cons (pv 0) (pa_cons pe_int pa_nil))) pa_nil)) (by rfl))
    (pss_cons (ps_par (i := 4) (j := 5) (by rfl) nd rfl rfl (by decide) rfl rfl (pa_cons (pe_c C__law_draw hr (by decide) (by rfl) (pa_cons (pv 0) (pa_cons (pe_callB call_len_seq (by rfl) B.len (by decide +kernel) (pa_cons (pv 2) pa_nil)) pa_nil))) (pa_cons (pe_c C__law_draw hr (by decide) (by rfl) (pa_cons (pv 0) (pa_cons (pe_op op_add (pe_callB call_len_str (by rfl) B.len (by decide +kernel) (pa_cons (pv 1) pa_nil)) pe_int) pa_nil))) pa_nil)) (by rfl))
    (pss_cons (ps_set (i := 6) nd rfl (.inl rfl) (pe_lst (pa_cons pe_str (pa_cons pe_str (pa_cons pe_str (pa_cons pe_str (pa_cons pe_str (pa_cons pe_str (pa_cons pe_str (pa_cons pe_str (pa_cons pe_str (pa_cons pe_str (pa_cons pe_str (pa_cons pe_str (pa_cons pe_str (pa_cons pe_str (pa_cons pe_str (pa_cons pe_str (pa_cons pe_str pa_nil)))))))))))))))))))
    (pss_cons (ps_set (i := 6) nd rfl (.inl rfl) (pe_op op_cat (pv 6) (pe_lst (pa_cons (pe_op op_add_str pe_str (pe_op op_mul_txt pe_str pe_int)) (pa_cons (pe_op op_add_str (pe_op op_add_str pe_str (pe_op op_mul_txt pe_str pe_int)) pe_str) (pa_cons (pe_op op_add_str pe_str (pe_op op_mul_txt pe_str pe_int)) (pa_cons (pe_op op_add_str (pe_op op_add_str pe_str (pe_op op_mul_txt pe_str pe_int)) pe_str) (pa_cons (pe_op op_mul_txt pe_str pe_int) pa_nil))))))))
    (pss_cons (ps_set (i := 7) nd rfl (.inl rfl) (pe_c C__law_pick hr (by decide) (by rfl) (pa_cons (pv 0) (pa_cons (pv 6) pa_nil))))
    (pss_cons (ps_if (pt_cmpR op_eq (pv 3) pe_int (nomark _))
      (pss_one (ps_ret (pe_op op_add_str (pe_op op_add_str (pe_slice sl_str (pv 1) po_none (po_some (pv 5))) (pe_c C__law_pickS hr (by decide) (by rfl) (pa_cons (pv 0) (pa_cons pe_str pa_nil)))) (pe_slice sl_str (pv 1) (po_some (pv 5)) po_none))))
      pss_nil)
    (pss_cons (ps_if (pt_cmpR op_eq (pv 3) pe_int (nomark _))
      (pss_one (ps_ret (pe_op op_add_str (pe_slice sl_str (pv 1) po_none (po_some (pv 5))) (pe_slice sl_str (pv 1) (po_some (pe_op op_add (pv 5) pe_int)) po_none))))
      pss_nil)
    (pss_cons (ps_set (i := 8) nd rfl (.inl rfl) (pe_lst (pa_cons (pe_cut (pe_op op_cat (pe_slice sl_list (pv 2) po_none (po_some (pv 4))) (pe_slice sl_list (pv 2) (po_some (pe_op op_add (pv 4) pe_int)) po_none))) (pa_cons (pe_cut (pe_op op_cat (pe_op op_cat (pe_slice sl_list (pv 2) po_none (po_some (pv 4))) (pe_lst (pa_cons (pv 7) pa_nil))) (pe_slice sl_list (pv 2) (po_some (pe_op op_add (pv 4) pe_int)) po_none))) (pa_cons (pe_cut (pe_op op_cat (pe_op op_cat (pe_slice sl_list (pv 2) po_none (po_some (pv 4))) (pe_lst (pa_cons (pv 7) pa_nil))) (pe_slice sl_list (pv 2) (po_some (pv 4)) po_none))) pa_nil)))))
    (pss_cons (ps_set (i := 8) nd rfl (.inl rfl) (pe_op op_cat (pv 8) (pe_lst (pa_cons (pe_cut (pe_op op_cat (pe_slice sl_list (pv 2) po_none (po_some (pe_op op_add (pv 4) pe_int))) (pe_slice sl_list (pv 2) (po_some (pv 4)) po_none))) (pa_cons (pe_slice sl_list (pv 2) po_none (po_some (pv 4))) (pa_cons (pe_cut (pe_op op_cat (pe_op op_cat (pe_slice sl_list (pv 2) po_none (po_some (pv 4))) (pe_lst (pa_cons (pv 7) pa_nil))) (pe_slice sl_list (pv 2) (po_some (pe_op op_add (pv 4) pe_int)) po_none))) pa_nil))))))
    (pss_one (ps_ret (pe_join pe_str (pe_ix ix_list (pv 8) (pe_op op_sub (pv 3) pe_int) (fun _ _ => rfl)))))))))))))), ?_⟩
    have few := PyProof.Rows.split_le t " "
    have some1 := split_some t
    generalize hT : Txt.split t " " = T at few some1
    have one : 0 < T.length := List.length_pos_iff.mpr some1
    refine ⟨_, rfl, ⟨_, rfl⟩, t, _, rfl, rfl, by decide +kernel, sl_of (by omega), fun TO nTO => ?_⟩
    rw [hT]
    have s1 := same_new nTO (o := HO.lst (T.map V.str))
    have pen1 := pen.same s1
    refine ⟨_, rfl, p, c, 8, n, rfl, by decide, by decide, pen1, by omega, fun way H1 w0 w9 k1 pen2 => ?_⟩
    have nTp : TO ≠ p := pen.np nTO
    have hTO : (upd H TO (.lst (T.map V.str))) TO = some (.lst (T.map V.str)) := upd_same
    have hTO1 := k1 _ _ nTp hTO
    refine ⟨_, _, rfl, ?_⟩
    refine ⟨_, rfl, _, rfl, TO, _, rfl, .inl (SqL.of hTO1), p, c, _, _, rfl, by rw [List.length_map]; omega, ?_, pen2, by omega, fun kz H2 kz0 kz9 k2 pen3 => ?_⟩
    · rw [List.length_map]
      exact Nat.lt_of_le_of_lt (show ((T.length : Int)).natAbs ≤ 100000 by omega) (by decide)
    have hTO2 := k2 _ _ nTp hTO1
    refine ⟨_, rfl, _, rfl, t, rfl, sl_of (by omega), _, _, rfl, rfl, p, c, _, _, rfl, by omega, ?_, pen3, by omega, fun az H3 az0 az9 k3 pen4 => ?_⟩
    · exact Nat.lt_of_le_of_lt (show ((t.length : Int) + 1).natAbs ≤ 100000 by omega) (by decide)
    have hTO3 := k3 _ _ nTp hTO2
    refine ⟨_, _, rfl, ?_⟩
    obtain ⟨kn, rfl⟩ : ∃ j : Nat, kz = (j : Int) := ⟨kz.toNat, by omega⟩
    obtain ⟨an, rfl⟩ : ∃ j : Nat, az = (j : Int) := ⟨az.toNat, by omega⟩
    have k0 : Kp p H H3 := (Same.kp s1).trans (k1.trans (k2.trans k3))
    have m1 : MulOk "0" 30 := mul_ok _ _ (by decide +kernel)
    have m2 : MulOk "0" 29 := mul_ok _ _ (by decide +kernel)
    have m3 : MulOk "9" 40 := mul_ok _ _ (by decide +kernel)
    refine ⟨sl_of (show 17 ≤ 1000000 by decide), fun O1 nO1 => ?_⟩
    have t1 := same_new nO1 (o := HO.lst [V.str "", V.str "0", V.str "-0", V.str "01", V.str "-1", V.str "+1", V.str "1.5", V.str "step", V.str "turn", V.str "repeat", V.str "[", V.str "]", V.str "[]", V.str "Step", V.str "-", V.str "x", V.str "7\n"])
    have ls : ∀ {x y : Str}, x.length + y.length ≤ 1000 → x.length + y.length ≤ sizeLine := fun h => sl_of (by omega)
    refine ⟨_, rfl, _, _, rfl, rfl, m1, _, _, rfl, rfl, ls (by decide +kernel), ?_⟩
    refine ⟨_, _, rfl, rfl, m2, _, _, rfl, rfl, ls (by decide +kernel), _, _, rfl, rfl, ls (by decide +kernel), ?_⟩
    refine ⟨_, _, rfl, rfl, m1, _, _, rfl, rfl, ls (by decide +kernel), ?_⟩
    refine ⟨_, _, rfl, rfl, m2, _, _, rfl, rfl, ls (by decide +kernel), _, _, rfl, rfl, ls (by decide +kernel), ?_⟩
    refine ⟨_, _, rfl, rfl, m3, ?_⟩
    refine ⟨sl_of (show 5 ≤ 1000000 by decide), fun O2 nO2 => ?_⟩
    have t2 := same_new nO2 (o := HO.lst [V.str ("1" ++ Txt.mul "0" 30), V.str ("1" ++ Txt.mul "0" 29 ++ "1"), V.str ("-1" ++ Txt.mul "0" 30), V.str ("-1" ++ Txt.mul "0" 29 ++ "1"), V.str (Txt.mul "9" 40)])
    refine ⟨O1, O2, _, _, rfl, rfl, t2 _ _ upd_same, upd_same, sl_of (show 22 ≤ 1000000 by decide), fun O3 nO3 => ?_⟩
    have t3 := same_new nO3 (o := HO.lst ([V.str "", V.str "0", V.str "-0", V.str "01", V.str "-1", V.str "+1", V.str "1.5", V.str "step", V.str "turn", V.str "repeat", V.str "[", V.str "]", V.str "[]", V.str "Step", V.str "-", V.str "x", V.str "7\n"] ++ [V.str ("1" ++ Txt.mul "0" 30), V.str ("1" ++ Txt.mul "0" 29 ++ "1"), V.str ("-1" ++ Txt.mul "0" 30), V.str ("-1" ++ Txt.mul "0" 29 ++ "1"), V.str (Txt.mul "9" 40)]))
    have tt := t1.trans (t2.trans t3)
    refine ⟨_, rfl, _, rfl, p, c, O3, _, _, rfl, pen4.same tt, by omega, upd_same, by decide, by decide, fun v H4 hv k4 pen5 => ?_⟩
    obtain ⟨x, rfl, xlow, xlen⟩ := oddV_at (List.all_eq_true.mp (show (List.all _ oddV) = true by decide +kernel) v hv)
    have hTO4 := k4 _ _ nTp (tt _ _ hTO3)
    have kk : Kp p H H4 := k0.trans ((Same.kp tt).trans k4)
    have tw := len_cut t
    refine ⟨_, rfl, rfl, _, rfl, ite2 (fun h => ?_) fun h => ?_⟩
    · have lowS : ∀ i ∈ TL.tl ("0123456789- []stepturnrepeat\n~" : Str), i < 128 := by decide +kernel
      refine ⟨_, rfl, _, rfl, _, rfl, t, rfl, sl_of (by omega), ?_⟩
      have c1 := tw none (some (an : Int))
      have c2 := tw (some (an : Int)) none
      refine ⟨_, rfl, p, c, _, _, rfl, pen5, by omega, by decide +kernel, by decide +kernel, fun i H5 hi k5 pen6 => ?_⟩
      have one1 : (⟨#[i]⟩ : Str).length = 1 := rfl
      have lowi : Low (⟨#[i]⟩ : Str) := fun j hj => by
        rw [show TL.tl (⟨#[i]⟩ : Str) = [i] from rfl, List.mem_singleton] at hj
        rw [hj]
        exact lowS i hi
      refine ⟨_, _, rfl, rfl, sl_of (by omega), ?_⟩
      refine ⟨_, rfl, _, rfl, _, rfl, t, rfl, sl_of (by omega), ?_⟩
      have e1 := len_app (cutS t none (some (an : Int))) ⟨#[i]⟩
      refine ⟨_, _, rfl, rfl, sl_of (by omega), ?_⟩
      refine q _ _ (kk.trans k5) (pen6.mono (by omega)) (low_app (low_app (low_cut hlow _ _) lowi) (low_cut hlow _ _)) ?_
      rw [len_app]
      omega
    refine ⟨_, rfl, rfl, _, rfl, ite2 (fun h' => ?_) fun h' => ?_⟩
    · refine ⟨_, rfl, _, rfl, _, rfl, t, rfl, sl_of (by omega), ?_⟩
      refine ⟨_, rfl, _, rfl, _, _, rfl, rfl, _, rfl, t, rfl, sl_of (by omega), ?_⟩
      have c1 := tw none (some (an : Int))
      have c2 := tw (some ((an : Int) + 1)) none
      refine ⟨_, _, rfl, rfl, sl_of (by omega), ?_⟩
      refine q _ _ kk (pen5.mono (by omega)) (low_app (low_cut hlow _ _) (low_cut hlow _ _)) ?_
      rw [len_app]
      omega
    have w2 : 2 ≤ way := by
      have a1 : ¬ way = 0 := fun z => h (decide_eq_true (by rw [z]))
      have a2 : ¬ way = 1 := fun z => h' (decide_eq_true (by rw [z]))
      omega
    have n1 : ((kn : Int) + 1) = ((kn + 1 : Nat) : Int) := rfl
    -- a part of the tokens, and what is put together of parts
    have c1 : cutV (T.map V.str) none (some (kn : Int)) = (T.take kn).map V.str := cutV_to T kn
    have c2 : cutV (T.map V.str) (some ((kn : Int) + 1)) none = (T.drop (kn + 1)).map V.str := cutV_from T (kn + 1)
    have c3 : cutV (T.map V.str) (some (kn : Int)) none = (T.drop kn).map V.str := cutV_from T kn
    have c4 : cutV (T.map V.str) none (some ((kn : Int) + 1)) = (T.take (kn + 1)).map V.str := cutV_to T (kn + 1)
    have r0 : Same H4 H4 := Same.refl _
    refine ⟨fun v G' => ∃ D us, v = V.ref D ∧ Same (H4) G' ∧ G' D = some (.lst (us.map V.str)) ∧ OfT T (2 * smT T + 41) us, ?_, ?_⟩
    · refine ⟨_, rfl, _, rfl, _, rfl, TO, _, rfl, SqL.of hTO4, fun D1 nD1 => ?_⟩
      have z1 := same_new nD1 (o := HO.lst (cutV (T.map V.str) none (some (kn : Int))))
      refine ⟨_, rfl, _, rfl, _, _, rfl, rfl, _, rfl, TO, _, rfl, SqL.of (z1 _ _ hTO4), fun D2 nD2 => ?_⟩
      have z2 := same_new nD2 (o := HO.lst (cutV (T.map V.str) (some ((kn : Int) + 1)) none))
      refine ⟨D1, D2, _, _, rfl, rfl, z2 _ _ upd_same, upd_same, sl_of (by rw [c1, c2, List.length_map, List.length_map, List.length_take, List.length_drop]; omega), fun D3 nD3 => ?_⟩
      exact ⟨D3, T.take kn ++ T.drop (kn + 1), rfl, z1.trans (z2.trans (same_new nD3)), by rw [upd_same, c1, c2, List.map_append], ((OfT.tk kn).app (OfT.dr (kn + 1))).up (by omega)⟩
    rintro v1 G1 ⟨E1, u1, rfl, g1, hE1, f1⟩
    refine ⟨fun v G' => ∃ D us, v = V.ref D ∧ Same (G1) G' ∧ G' D = some (.lst (us.map V.str)) ∧ OfT T (2 * smT T + 41) us, ?_, ?_⟩
    · have z0 := g1
      refine ⟨_, rfl, _, rfl, _, rfl, TO, _, rfl, SqL.of (g1 _ _ hTO4), fun D1 nD1 => ?_⟩
      have z1 := same_new nD1 (o := HO.lst (cutV (T.map V.str) none (some (kn : Int))))
      refine ⟨_, rfl, sl_of (show 1 ≤ 1000000 by decide), fun D2 nD2 => ?_⟩
      have z2 := same_new nD2 (o := HO.lst [V.str x])
      refine ⟨D1, D2, _, _, rfl, rfl, z2 _ _ upd_same, upd_same, sl_of (by rw [c1, List.length_map, List.length_take]; show _ + 1 ≤ _; omega), fun D3 nD3 => ?_⟩
      have z3 := same_new nD3 (o := HO.lst (cutV (T.map V.str) none (some (kn : Int)) ++ [V.str x]))
      refine ⟨_, rfl, _, rfl, _, _, rfl, rfl, _, rfl, TO, _, rfl, SqL.of ((g1.trans (z1.trans (z2.trans z3))) _ _ hTO4), fun D4 nD4 => ?_⟩
      have z4 := same_new nD4 (o := HO.lst (cutV (T.map V.str) (some ((kn : Int) + 1)) none))
      refine ⟨D3, D4, _, _, rfl, rfl, z4 _ _ upd_same, upd_same, sl_of (by rw [c1, c2, List.length_append, List.length_map, List.length_map, List.length_take, List.length_drop]; show _ + 1 + _ ≤ _; omega), fun D5 nD5 => ?_⟩
      exact ⟨D5, (T.take kn ++ [x]) ++ T.drop (kn + 1), rfl, z1.trans (z2.trans (z3.trans (z4.trans (same_new nD5)))), by rw [upd_same, c1, c2, List.map_append, List.map_append]; rfl, (((OfT.tk kn).app (OfT.odd ⟨xlow, xlen⟩)).app (OfT.dr (kn + 1))).up (by omega)⟩
    rintro v2 G2 ⟨E2, u2, rfl, g2, hE2, f2⟩
    refine ⟨fun v G' => ∃ D us, v = V.ref D ∧ Same (G2) G' ∧ G' D = some (.lst (us.map V.str)) ∧ OfT T (2 * smT T + 41) us, ?_, ?_⟩
    · have z0 := g2
      refine ⟨_, rfl, _, rfl, _, rfl, TO, _, rfl, SqL.of ((g1.trans g2) _ _ hTO4), fun D1 nD1 => ?_⟩
      have z1 := same_new nD1 (o := HO.lst (cutV (T.map V.str) none (some (kn : Int))))
      refine ⟨_, rfl, sl_of (show 1 ≤ 1000000 by decide), fun D2 nD2 => ?_⟩
      have z2 := same_new nD2 (o := HO.lst [V.str x])
      refine ⟨D1, D2, _, _, rfl, rfl, z2 _ _ upd_same, upd_same, sl_of (by rw [c1, List.length_map, List.length_take]; show _ + 1 ≤ _; omega), fun D3 nD3 => ?_⟩
      have z3 := same_new nD3 (o := HO.lst (cutV (T.map V.str) none (some (kn : Int)) ++ [V.str x]))
      refine ⟨_, rfl, _, rfl, _, rfl, TO, _, rfl, SqL.of (((g1.trans g2).trans (z1.trans (z2.trans z3))) _ _ hTO4), fun D4 nD4 => ?_⟩
      have z4 := same_new nD4 (o := HO.lst (cutV (T.map V.str) (some (kn : Int)) none))
      refine ⟨D3, D4, _, _, rfl, rfl, z4 _ _ upd_same, upd_same, sl_of (by rw [c1, c3, List.length_append, List.length_map, List.length_map, List.length_take, List.length_drop]; show _ + 1 + _ ≤ _; omega), fun D5 nD5 => ?_⟩
      exact ⟨D5, (T.take kn ++ [x]) ++ T.drop kn, rfl, z1.trans (z2.trans (z3.trans (z4.trans (same_new nD5)))), by rw [upd_same, c1, c3, List.map_append, List.map_append]; rfl, (((OfT.tk kn).app (OfT.odd ⟨xlow, xlen⟩)).app (OfT.dr kn)).up (by omega)⟩
    rintro v3 G3 ⟨E3, u3, rfl, g3, hE3, f3⟩
    refine ⟨sl_of (show 3 ≤ 1000000 by decide), fun S1 nS1 => ?_⟩
    have y1 := same_new nS1 (o := HO.lst [V.ref E1, V.ref E2, V.ref E3])
    have gg3 := g1.trans (g2.trans (g3.trans y1))
    refine ⟨_, rfl, ?_⟩
    refine ⟨fun v G' => ∃ D us, v = V.ref D ∧ Same (upd G3 S1 (.lst [V.ref E1, V.ref E2, V.ref E3])) G' ∧ G' D = some (.lst (us.map V.str)) ∧ OfT T (2 * smT T + 41) us, ?_, ?_⟩
    · refine ⟨_, rfl, _, rfl, _, _, rfl, rfl, _, rfl, TO, _, rfl, SqL.of (gg3 _ _ hTO4), fun D1 nD1 => ?_⟩
      have z1 := same_new nD1 (o := HO.lst (cutV (T.map V.str) none (some ((kn : Int) + 1))))
      refine ⟨_, rfl, _, rfl, _, rfl, TO, _, rfl, SqL.of (z1 _ _ (gg3 _ _ hTO4)), fun D2 nD2 => ?_⟩
      have z2 := same_new nD2 (o := HO.lst (cutV (T.map V.str) (some (kn : Int)) none))
      refine ⟨D1, D2, _, _, rfl, rfl, z2 _ _ upd_same, upd_same, sl_of (by rw [c4, c3, List.length_map, List.length_map, List.length_take, List.length_drop]; omega), fun D3 nD3 => ?_⟩
      exact ⟨D3, T.take (kn + 1) ++ T.drop kn, rfl, z1.trans (z2.trans (same_new nD3)), by rw [upd_same, c4, c3, List.map_append], ((OfT.tk (kn + 1)).app (OfT.dr kn)).up (by omega)⟩
    rintro v4 G4 ⟨E4, u4, rfl, g4, hE4, f4⟩
    refine ⟨_, rfl, _, rfl, _, rfl, TO, _, rfl, SqL.of ((gg3.trans g4) _ _ hTO4), fun E5 nE5 => ?_⟩
    have g5 := same_new nE5 (o := HO.lst (cutV (T.map V.str) none (some (kn : Int))))
    have gg5 := gg3.trans (g4.trans g5)
    have hE5 : (upd G4 E5 (HO.lst (cutV (T.map V.str) none (some (kn : Int))))) E5 = some (.lst ((T.take kn).map V.str)) := by rw [upd_same, c1]
    have f5 : OfT T (2 * smT T + 41) (T.take kn) := (OfT.tk kn).up (by omega)
    refine ⟨fun v G' => ∃ D us, v = V.ref D ∧ Same (upd G4 E5 (HO.lst (cutV (T.map V.str) none (some (kn : Int))))) G' ∧ G' D = some (.lst (us.map V.str)) ∧ OfT T (2 * smT T + 41) us, ?_, ?_⟩
    · have z0 := gg5
      refine ⟨_, rfl, _, rfl, _, rfl, TO, _, rfl, SqL.of (gg5 _ _ hTO4), fun D1 nD1 => ?_⟩
      have z1 := same_new nD1 (o := HO.lst (cutV (T.map V.str) none (some (kn : Int))))
      refine ⟨_, rfl, sl_of (show 1 ≤ 1000000 by decide), fun D2 nD2 => ?_⟩
      have z2 := same_new nD2 (o := HO.lst [V.str x])
      refine ⟨D1, D2, _, _, rfl, rfl, z2 _ _ upd_same, upd_same, sl_of (by rw [c1, List.length_map, List.length_take]; show _ + 1 ≤ _; omega), fun D3 nD3 => ?_⟩
      have z3 := same_new nD3 (o := HO.lst (cutV (T.map V.str) none (some (kn : Int)) ++ [V.str x]))
      refine ⟨_, rfl, _, rfl, _, _, rfl, rfl, _, rfl, TO, _, rfl, SqL.of ((gg5.trans (z1.trans (z2.trans z3))) _ _ hTO4), fun D4 nD4 => ?_⟩
      have z4 := same_new nD4 (o := HO.lst (cutV (T.map V.str) (some ((kn : Int) + 1)) none))
      refine ⟨D3, D4, _, _, rfl, rfl, z4 _ _ upd_same, upd_same, sl_of (by rw [c1, c2, List.length_append, List.length_map, List.length_map, List.length_take, List.length_drop]; show _ + 1 + _ ≤ _; omega), fun D5 nD5 => ?_⟩
      exact ⟨D5, (T.take kn ++ [x]) ++ T.drop (kn + 1), rfl, z1.trans (z2.trans (z3.trans (z4.trans (same_new nD5)))), by rw [upd_same, c1, c2, List.map_append, List.map_append]; rfl, (((OfT.tk kn).app (OfT.odd ⟨xlow, xlen⟩)).app (OfT.dr (kn + 1))).up (by omega)⟩
    rintro v6 G6 ⟨E6, u6, rfl, g6, hE6, f6⟩
    refine ⟨sl_of (show 3 ≤ 1000000 by decide), fun S2 nS2 => ?_⟩
    have y2 := same_new nS2 (o := HO.lst [V.ref E4, V.ref E5, V.ref E6])
    refine ⟨S1, S2, _, _, rfl, rfl, y2 _ _ (g6 _ _ (g5 _ _ (g4 _ _ upd_same))), upd_same, sl_of (show 6 ≤ 1000000 by decide), fun S3 nS3 => ?_⟩
    have y3 := same_new nS3 (o := HO.lst ([V.ref E1, V.ref E2, V.ref E3] ++ [V.ref E4, V.ref E5, V.ref E6]))
    have last : Same G6 _ := y2.trans y3
    have all : ∀ v ∈ [V.ref E1, V.ref E2, V.ref E3] ++ [V.ref E4, V.ref E5, V.ref E6], ∃ D us, v = V.ref D ∧ (upd (upd G6 S2 (.lst [V.ref E4, V.ref E5, V.ref E6])) S3 (.lst ([V.ref E1, V.ref E2, V.ref E3] ++ [V.ref E4, V.ref E5, V.ref E6]))) D = some (.lst (us.map V.str)) ∧ OfT T (2 * smT T + 41) us := fun v hv => by
      have k6 := last
      have k5 := g6.trans k6
      have k4' := g5.trans k5
      have k3' := y1.trans (g4.trans k4')
      have k2' := g3.trans k3'
      have k1' := g2.trans k2'
      simp only [List.cons_append, List.nil_append, List.mem_cons, List.not_mem_nil, or_false] at hv
      rcases hv with rfl | rfl | rfl | rfl | rfl | rfl
      · exact ⟨E1, u1, rfl, k1' _ _ hE1, f1⟩
      · exact ⟨E2, u2, rfl, k2' _ _ hE2, f2⟩
      · exact ⟨E3, u3, rfl, k3' _ _ hE3, f3⟩
      · exact ⟨E4, u4, rfl, k4' _ _ hE4, f4⟩
      · exact ⟨E5, _, rfl, k5 _ _ hE5, f5⟩
      · exact ⟨E6, u6, rfl, k6 _ _ hE6, f6⟩
    obtain ⟨j, hj, ej⟩ : ∃ j : Nat, j < 6 ∧ way - 2 = (j : Int) := ⟨(way - 2).toNat, by omega, by omega⟩
    have hj6 : j < ([V.ref E1, V.ref E2, V.ref E3] ++ [V.ref E4, V.ref E5, V.ref E6]).length := hj
    obtain ⟨D, us, ed, hD, fo⟩ := all _ (List.getElem_mem hj6)
    have hat : atI ([V.ref E1, V.ref E2, V.ref E3] ++ [V.ref E4, V.ref E5, V.ref E6]) (way - 2) = some (V.ref D) := by
      rw [ej, ← ed]
      exact atI_nat (List.getElem?_eq_getElem hj6)
    have sz := smT_sum us
    have sj := smT_jn (Txt.split t " ")
    rw [jn_split, hT] at sj
    have fb := fo.2
    refine ⟨⟨_, rfl⟩, _, rfl, _, rfl, _, _, rfl, rfl, S3, _, _, _, rfl, rfl, SqL.of upd_same, hat, " ", D, us, rfl, rfl, .inl (SqL.of hD), by omega, ?_⟩
    have fin := OfT.text hlow (us := us) (by rw [hT]; exact fo)
    exact q _ _ (kk.trans (Same.kp (gg5.trans (g6.trans last)))) (((pen5.same gg5).same (g6.trans last)).mono (by omega)) fin.1 fin.2
theorem sc__law_parsed : FnScope ["_law_text_here", "_law_caught", "e"] ["_law_text_here"] (defScope s__law_parsed) := ⟨rfl, rfl, rfl, by decide +kernel, rfl, by decide +kernel, by decide +kernel⟩
theorem ok__law_parsed {f : Addr} {fd : FuncData} (F : Fun K "_law_parsed" "_law_parsed" s__law_parsed f fd) (B : Blt mg) {C C1 C2 C3 : Addr} (Z : TxtF P w K mg base C) (Y : IsPR K mg C C1 C2 C3) (C_parse_program : CalE P w K mg base 9 "parse_program" (sp_parse_program K C)) : FnOk P w K mg base CX0 10 f fd ["_law_text_here"] (sp__law_parsed K) := by
  refine F.ok sc__law_parsed (fun vs H Q E h => ?_) (fun cdv A outer s H vs Q E hr h => ?_)
  · obtain ⟨t, rfl, _⟩ := h
    rfl
  · obtain ⟨t, rfl, hl, q⟩ := h
    have nd := sc__law_parsed.nd
    refine ⟨_, (pss_cons (ps_set (i := 1) nd rfl (.inl rfl) pe_non)
      (pss_cons (ps_try_hold (i := 2) (c := .ref C) (ts := fun a cls d D σ H => tAsg (tVar 2) (gName 1) D σ H) rfl rfl rfl nd rfl rfl ⟨by rfl, by decide, .inl Z.gl⟩
        (fun W pn xe tk po => pss_one (ps_ret (pe_lst (pa_cons pe_str (pa_cons (pe_cE C_parse_program tk hr (by decide) (by rfl) (pa_cons (pv 0) pa_nil)) pa_nil)))))
        (fun a oe cls d pn hz hf => pss_one (ps_set (i := 1) nd rfl (.inl rfl) (pv 2))))
      (pss_cons (ps_if (PW.pt (pw_or (pt_not (pt_val (pe_callB (call_isD Y.ec) (by rfl) B.isinstance (by decide +kernel) (pa_cons (pv 1) (pa_cons (pe_bltn (v := .ty "ValueError") (u := .type "ValueError") (by rfl) Y.ve (by decide +kernel) rfl) pa_nil)))))
          (pw_or1 (pt_val (pe_callB (call_isTD Y.ec) (by rfl) B.isinstance (by decide +kernel) (pa_cons (pv 1) (pa_cons (pe_tup (pa_cons (pe_glob (v := .ref C1) (by rfl) Y.z1 rfl) (pa_cons (pe_glob (v := .ref C2) (by rfl) Y.z2 rfl) (pa_cons (pe_glob (v := .ref C3) (by rfl) Y.z3 rfl) pa_nil)))) pa_nil)))))))
        (pss_one (ps_ret (pe_lst (pa_cons pe_str pa_nil)))) pss_nil)
      (pss_one (ps_ret (pe_lst (pa_cons pe_str (pa_cons (pe_heldF Z.over Z.no (pv 1)) pa_nil)))))))), ?_⟩
    refine ⟨_, rfl, t, rfl, by omega, fun b r1 D xs H1 hb s1 nD hD hN => ?_, fun q0 d H1 hb s1 nd0 => ?_⟩
    · refine ⟨sl_of (show 2 ≤ 1000000 by decide), fun L nL => ?_⟩
      have s2 := same_new nL (o := HO.lst [V.str "program", V.ref D])
      refine q L _ (s1.trans s2) ?_
      rw [hb]
      exact .lst (SqL.of upd_same) (.cons (.str _) (.cons (Dp.same s2 (hN.dp hD)) .nil))
    · refine ⟨Y.em, fun a na => ?_⟩
      have nda : d ≠ a := fun z => by
        rw [← z, upd_same] at na
        cases na
      have s2 := s1.trans ((same_new nd0 (o := HO.xd [(("position" : Str), V.int q0)])).trans (same_new na (o := HeldX (.ref C) (some d) a)))
      have hda : (upd (upd H1 d (HO.xd [(("position" : Str), V.int q0)])) a (HeldX (.ref C) (some d) a)) d = some (.xd [(("position" : Str), V.int q0)]) := (upd_ne nda).trans upd_same
      refine ⟨_, rfl, ?_⟩
      refine ⟨_, rfl, a, d, _, .ty "ValueError", .type "ValueError", true, rfl, upd_same, hda, fun u r => ?_, Y.k1, true, rfl, iteF ?_⟩
      · cases r
        rfl
      refine ⟨_, rfl, sl_of (show 3 ≤ 1000000 by decide), fun t nt => ?_⟩
      have s3 := same_new nt (o := HO.tup [V.ref C1, V.ref C2, V.ref C3])
      refine ⟨a, d, t, _, [V.ref C1, V.ref C2, V.ref C3], [.ref C1, .ref C2, .ref C3], false, rfl, s3 _ _ upd_same, s3 _ _ hda, SqT.of upd_same, fun us r => ?_, Y.k2, false, rfl, iteF ?_⟩
      · match us, r with
        | [_, _, _], .cons r1 (.cons r2 (.cons r3 .nil)) =>
          cases r1
          cases r2
          cases r3
          rfl
      refine ⟨_, rfl, a, d, _, rfl, s3 _ _ upd_same, s3 _ _ hda, sl_of (show 2 ≤ 1000000 by decide), fun L nL => ?_⟩
      have s4 := same_new nL (o := HO.lst [V.str "error", V.int (q0 : Int)])
      refine q L _ (s2.trans (s3.trans s4)) ?_
      rw [hb]
      exact .lst (SqL.of upd_same) (.cons (.str _) (.cons (.int _) .nil))
theorem sc__law_any_text : FnScope ["_law_pen_here", "_law_way", "_law_text_here", "_law_again"] ["_law_pen_here"] (defScope s__law_any_text) := ⟨rfl, rfl, rfl, by decide +kernel, rfl, by decide +kernel, by decide +kernel⟩
theorem ok__law_any_text {f : Addr} {fd : FuncData} (F : Fun K "_law_any_text" "_law_any_text" s__law_any_text f fd) (B : Blt mg) (C__law_draw : Cal P w K mg base 1 "_law_draw" sp__law_draw) (C__law_pick : Cal P w K mg base 2 "_law_pick" sp__law_pick) (C__law_full_program : Cal P w K mg base 3 "_law_full_program" (sp__law_full_programG K)) (C__law_wide_program : Cal P w K mg base 5 "_law_wide_program" (sp__law_wide_programG K)) (C__law_text : Cal P w K mg base (3 + 0) "_law_text" (sp__law_text K 3)) (C__law_spoilt : Cal P w K mg base 3 "_law_spoilt" sp__law_spoilt) : FnOk P w K mg base CX0 6 f fd ["_law_pen_here"] sp__law_any_text := by
  refine F.ok sc__law_any_text (fun vs H Q E h => ?_) (fun cdv A outer s H vs Q E hr h => ?_)
  · obtain ⟨p, c, n, rfl, _⟩ := h
    rfl
  · obtain ⟨p, c, n, rfl, pen, hn, q⟩ := h
    have nd := sc__law_any_text.nd
    refine ⟨_, (pss_cons (ps_set (i := 1) nd rfl (.inl rfl) (pe_c C__law_draw hr (by decide) (by rfl) (pa_cons (pv 0) (pa_cons pe_int pa_nil))))
    (pss_cons (ps_set (i := 2) nd rfl (.inl rfl) (pe_c C__law_text hr (by decide) (by rfl) (pa_cons (pe_cut (pe_ifExp (pt_cmpR op_eq (pv 1) pe_int (nomark _)) (pe_c C__law_full_program hr (by decide) (by rfl) (pa_cons (pv 0) pa_nil)) (pe_c C__law_wide_program hr (by decide) (by rfl) (pa_cons (pv 0) (pa_cons pe_int pa_nil))))) pa_nil)))
    (pss_cons (ps_cut (ps_if (pt_cmpR op_eq (pv 1) pe_int (nomark _))
      (pss_one (ps_set (i := 2) nd rfl (.inl rfl) (pe_join pe_str (pe_op op_cat (pe_op op_rep (pe_lst (pa_cons pe_str pa_nil)) (pe_op op_add pe_int (pe_c C__law_draw hr (by decide) (by rfl) (pa_cons (pv 0) (pa_cons pe_int pa_nil))))) (pe_lst (pa_cons pe_str pa_nil))))))
      pss_nil))
    (pss_cons (ps_cut (ps_if (pt_cmpR op_eq (pv 1) pe_int (nomark _))
      (pss_one (ps_set (i := 2) nd rfl (.inl rfl) (pe_join pe_str (pe_op op_rep (pe_lst (pa_cons pe_str pa_nil)) (pe_op op_add pe_int (pe_c C__law_draw hr (by decide) (by rfl) (pa_cons (pv 0) (pa_cons pe_int pa_nil))))))))
      pss_nil))
    (pss_cons (ps_cut (ps_if (PW.pt (pw_and (pt_cmpR op_eq (pv 1) pe_int (nomark _)) (pw_and1 (pt_cmpR op_eq (pe_c C__law_draw hr (by decide) (by rfl) (pa_cons (pv 0) (pa_cons pe_int pa_nil))) pe_int (nomark _)))))
      (pss_one (ps_set (i := 2) nd rfl (.inl rfl) (pe_op op_add_str (pv 2) pe_str)))
      pss_nil))
    (pss_cons (ps_for PassesOwn.never rfl (pi_range1 (by rfl) B.range (pa_cons (pe_c C__law_pick hr (by decide) (by rfl) (pa_cons (pv 0) (pa_cons (pe_lst (pa_cons pe_int (pa_cons pe_int (pa_cons pe_int (pa_cons pe_int pa_nil))))) pa_nil))) pa_nil)) (pg_name (i := 3) nd rfl (.inl rfl))
      (pss_one (ps_set (i := 2) nd rfl (.inl rfl) (pe_c C__law_spoilt hr (by decide) (by rfl) (pa_cons (pv 0) (pa_cons (pv 2) pa_nil))))))
    (pss_one (ps_ret (pv 2))))))))), ?_⟩
    refine ⟨_, rfl, p, c, 8, n, rfl, by decide, by decide, pen, by omega, fun way H1 w0 w9 k1 pen1 => ?_⟩
    refine ⟨fun v H3 => ∃ F xs b, v = .ref F ∧ Kp p H1 H3 ∧ PenAt H3 p c (n + 2050) ∧ H3 F = some (.lst xs) ∧ IVs K H3 xs b ∧ GdP b 2 100 5, ?_, ?_⟩
    · refine ⟨_, rfl, rfl, _, rfl, ite2 (fun _ => ?_) fun _ => ?_⟩
      · exact ⟨_, rfl, p, c, _, rfl, pen1, by omega, fun F xs b H3 k3 pen3 hF hI ok => ⟨F, xs, b, rfl, k3, pen3.mono (by omega), hF, hI, ok⟩⟩
      · exact ⟨_, rfl, p, c, 2, _, rfl, by decide, by decide, pen1, by omega, fun F xs b H3 k3 pen3 hF hI ok => ⟨F, xs, b, rfl, k3, pen3.mono (by omega), hF, hI, ok.up (by decide) (by decide) (by decide)⟩⟩
    rintro v H3 ⟨F, xs, b, rfl, k3, pen3, hF, hI, gd⟩
    have hdp : dpP b < 3 := by have := gd.d; omega
    have hcn := gd.c
    have tx := tx_len gd.g
    refine ⟨.ref F, b, rfl, pv_list (SqL.of hF) hI, hdp, by decide, gd.g, by omega, fun H4 s4 => ?_⟩
    have b1 : ∀ n : Nat, n ≤ 1000000 → n ≤ sizeLine := fun n h => sl_of h
    -- seven of these, or a hundred and one of those
    refine ⟨fun σ' H' => ∃ u, σ' = [some (.ref p), some (.int way), some (.str u), none] ∧ Low u ∧ u.length ≤ 13300 ∧ Kp p H4 H' ∧ PenAt H' p c (n + 2051), ?_, ?_⟩
    · refine ⟨_, rfl, rfl, _, rfl, ite2 (fun _ => ?_) fun _ => ?_⟩
      rotate_left
      · exact ⟨_, rfl, low_tx b, by omega, Kp.refl _ _, (pen3.same s4).mono (by omega)⟩
      refine ⟨⟨_, rfl⟩, sl_of (show 1 ≤ 1000000 by decide), fun l nl => ?_⟩
      have z1 := same_new nl (o := HO.lst [V.str "repeat 1 [ ]"])
      have nlp : l ≠ p := (pen3.same s4).np nl
      refine ⟨_, rfl, p, c, 3, _, rfl, by decide, by decide, (pen3.same s4).same z1, by omega, fun r H5 r0 r9 k5 pen5 => ?_⟩
      obtain ⟨k, rfl⟩ : ∃ k : Nat, r = (k : Int) := ⟨r.toNat, by omega⟩
      have hl5 := k5 _ _ nlp upd_same
      refine ⟨_, _, rfl, rfl, l, _, [V.str "repeat 1 [ ]"], rfl, rfl, hl5, by omega, by omega, ?_, fun l2 nl2 => ?_⟩
      · refine sl_of ?_
        show 1 * (4 + (k : Int)).toNat ≤ 1000000
        omega
      have z2 := same_new nl2 (o := HO.lst (List.replicate (4 + (k : Int)).toNat [V.str "repeat 1 [ ]"]).flatten)
      refine ⟨sl_of (show 1 ≤ 1000000 by decide), fun l3 nl3 => ?_⟩
      have z3 := same_new nl3 (o := HO.lst [V.str "turn 1"])
      refine ⟨l2, l3, _, _, rfl, rfl, z3 _ _ upd_same, upd_same, sl_of (by rw [rep_strs, List.length_map, List.length_replicate]; show _ + 1 ≤ _; omega), fun l4 nl4 => ?_⟩
      have z4 := same_new nl4 (o := HO.lst ((List.replicate (4 + (k : Int)).toNat [V.str "repeat 1 [ ]"]).flatten ++ [V.str "turn 1"]))
      have e : (List.replicate (4 + (k : Int)).toNat [V.str "repeat 1 [ ]"]).flatten ++ [V.str "turn 1"] = (List.replicate (4 + (k : Int)).toNat ("repeat 1 [ ]" : Str) ++ [("turn 1" : Str)]).map V.str := by
        rw [rep_strs, List.map_append]
        rfl
      have hl4 : (upd (upd (upd H5 l2 (HO.lst (List.replicate (4 + (k : Int)).toNat [V.str "repeat 1 [ ]"]).flatten)) l3 (HO.lst [V.str "turn 1"])) l4 (HO.lst ((List.replicate (4 + (k : Int)).toNat [V.str "repeat 1 [ ]"]).flatten ++ [V.str "turn 1"]))) l4 = some (.lst ((List.replicate (4 + (k : Int)).toNat ("repeat 1 [ ]" : Str) ++ [("turn 1" : Str)]).map V.str)) := by
        rw [upd_same, e]
      have sm : smT (List.replicate (4 + (k : Int)).toNat ("repeat 1 [ ]" : Str) ++ [("turn 1" : Str)]) ≤ 100 := by
        rw [smT_app, smT_rep, show smT [("turn 1" : Str)] = 7 by decide +kernel, show ("repeat 1 [ ]" : Str).length + 1 = 13 by decide +kernel]
        omega
      have jl := jn_len (List.replicate (4 + (k : Int)).toNat ("repeat 1 [ ]" : Str) ++ [("turn 1" : Str)])
      have ss := smT_sum (List.replicate (4 + (k : Int)).toNat ("repeat 1 [ ]" : Str) ++ [("turn 1" : Str)])
      refine ⟨" ", l4, _, rfl, rfl, .inl (SqL.of hl4), by omega, ?_⟩
      have s5 := z2.trans (z3.trans z4)
      refine ⟨jn (List.replicate (4 + (k : Int)).toNat ("repeat 1 [ ]" : Str) ++ [("turn 1" : Str)]), rfl, low_jn fun u hu => ?_, ?_, (Same.kp z1).trans (k5.trans (Same.kp s5)), (pen5.same s5).mono (by omega)⟩
      · rcases List.mem_append.mp hu with hu | hu
        · rw [List.eq_of_mem_replicate hu]
          decide +kernel
        · rw [List.mem_singleton.mp hu]
          decide +kernel
      · unfold smT at sm
        omega
    rintro σ' H5 ⟨u, rfl, lowu, lenu, k5, pen5⟩
    refine ⟨fun σ' H' => ∃ u, σ' = [some (.ref p), some (.int way), some (.str u), none] ∧ Low u ∧ u.length ≤ 13300 ∧ Kp p H5 H' ∧ PenAt H' p c (n + 2052), ?_, ?_⟩
    · refine ⟨_, rfl, rfl, _, rfl, ite2 (fun _ => ?_) fun _ => ?_⟩
      rotate_left
      · exact ⟨_, rfl, lowu, lenu, Kp.refl _ _, pen5.mono (by omega)⟩
      refine ⟨⟨_, rfl⟩, sl_of (show 1 ≤ 1000000 by decide), fun l nl => ?_⟩
      have z1 := same_new nl (o := HO.lst [V.str "turn 1"])
      have nlp : l ≠ p := pen5.np nl
      refine ⟨_, rfl, p, c, 3, _, rfl, by decide, by decide, pen5.same z1, by omega, fun r H6 r0 r9 k6 pen6 => ?_⟩
      obtain ⟨k, rfl⟩ : ∃ k : Nat, r = (k : Int) := ⟨r.toNat, by omega⟩
      have hl5 := k6 _ _ nlp upd_same
      refine ⟨_, _, rfl, rfl, l, _, [V.str "turn 1"], rfl, rfl, hl5, by omega, by omega, ?_, fun l2 nl2 => ?_⟩
      · refine sl_of ?_
        show 1 * (99 + (k : Int)).toNat ≤ 1000000
        omega
      have z2 := same_new nl2 (o := HO.lst (List.replicate (99 + (k : Int)).toNat [V.str "turn 1"]).flatten)
      have hl4 : (upd H6 l2 (HO.lst (List.replicate (99 + (k : Int)).toNat [V.str "turn 1"]).flatten)) l2 = some (.lst ((List.replicate (99 + (k : Int)).toNat ("turn 1" : Str)).map V.str)) := by
        rw [upd_same, rep_strs]
      have sm : smT (List.replicate (99 + (k : Int)).toNat ("turn 1" : Str)) ≤ 800 := by
        rw [smT_rep, show ("turn 1" : Str).length + 1 = 7 by decide +kernel]
        omega
      have jl := jn_len (List.replicate (99 + (k : Int)).toNat ("turn 1" : Str))
      have ss := smT_sum (List.replicate (99 + (k : Int)).toNat ("turn 1" : Str))
      refine ⟨" ", l2, _, rfl, rfl, .inl (SqL.of hl4), by omega, ?_⟩
      refine ⟨jn (List.replicate (99 + (k : Int)).toNat ("turn 1" : Str)), rfl, low_jn fun u hu => ?_, ?_, (Same.kp z1).trans (k6.trans (Same.kp z2)), (pen6.same z2).mono (by omega)⟩
      · rw [List.eq_of_mem_replicate hu]
        decide +kernel
      · unfold smT at sm
        omega
    clear lowu lenu
    rintro σ' H6 ⟨u, rfl, lowu, lenu, k6, pen6⟩
    refine ⟨fun σ' H' => ∃ u, σ' = [some (.ref p), some (.int way), some (.str u), none] ∧ Low u ∧ u.length ≤ 13310 ∧ Kp p H6 H' ∧ PenAt H' p c (n + 2053), ?_, ?_⟩
    · refine ⟨_, rfl, rfl, _, rfl, ite2 (fun _ => ?_) fun _ => ?_⟩
      rotate_left
      · refine iteF ?_
        exact ⟨_, rfl, lowu, by omega, Kp.refl _ _, pen6.mono (by omega)⟩
      refine ⟨_, rfl, p, c, 2, _, rfl, by decide, by decide, pen6, by omega, fun r H7 r0 r9 k7 pen7 => ?_⟩
      refine ⟨rfl, _, rfl, ite2 (fun _ => ?_) fun _ => ?_⟩
      rotate_left
      · exact ⟨_, rfl, lowu, by omega, k7, pen7.mono (by omega)⟩
      have l7 : (" step 1" : Str).length = 7 := by decide +kernel
      have la := len_app u " step 1"
      refine ⟨_, rfl, _, _, rfl, rfl, sl_of (by omega), ?_⟩
      exact ⟨_, rfl, low_app lowu (by decide +kernel), by omega, k7, pen7.mono (by omega)⟩
    clear lowu lenu
    rintro σ' H7 ⟨u, rfl, lowu, lenu, k7, pen7⟩
    refine ⟨_, rfl, sl_of (show 4 ≤ 1000000 by decide), fun l nl => ?_⟩
    have z1 := same_new nl (o := HO.lst [V.int 0, V.int 1, V.int 1, V.int 2])
    refine ⟨p, c, l, _, _, rfl, pen7.same z1, by omega, upd_same, by decide, by decide, fun v H8 hv k8 pen8 => ?_⟩
    obtain ⟨k, rfl, hk⟩ : ∃ k : Nat, v = V.int (k : Int) ∧ k ≤ 2 := by
      simp only [List.mem_cons, List.not_mem_nil, or_false] at hv
      rcases hv with rfl | rfl | rfl | rfl
      · exact ⟨0, rfl, by decide⟩
      · exact ⟨1, rfl, by decide⟩
      · exact ⟨1, rfl, by decide⟩
      · exact ⟨2, rfl, by decide⟩
    have kk : Kp p H H8 := k1.trans (k3.trans ((Same.kp s4).trans (k5.trans (k6.trans (k7.trans ((Same.kp z1).trans k8))))))
    refine ⟨_, rfl, by omega, by omega, for_range (lo := 0) (n := (k : Int).toNat) (fun i σ H2 => ∃ (u : Str) (y3 : Option V), σ = [some (.ref p), some (.int way), some (.str u), y3] ∧ Kp p H8 H2 ∧ PenAt H2 p c (n + 2060 + 5 * i) ∧ Low u ∧ (i = 0 → u.length ≤ 13310) ∧ (i ≤ 1 → u.length ≤ 26670) ∧ u.length ≤ 53390) ⟨u, none, rfl, Kp.refl _ _, pen8.mono (by omega), lowu, fun _ => lenu, fun _ => by omega, by omega⟩ ?_ ?_⟩
    · rintro i σ H2 hi ⟨u, y3, rfl, k2, pen2, lowu, l0, l1, l2⟩
      have hi2 : i < k := by omega
      have lu := l1 (by omega)
      refine ⟨_, rfl, _, rfl, p, c, u, _, rfl, pen2, by omega, by omega, lowu, fun u2 H9 k9 pen9 low9 len9 => ?_⟩
      refine ⟨u2, _, rfl, k2.trans k9, pen9.mono (by omega), low9, fun z => by omega, fun z => ?_, by omega⟩
      have := l0 (by omega)
      omega
    · rintro σ H2 ⟨u, y3, rfl, k2, pen2, lowu, l0, l1, l2⟩
      have hk2 : (k : Int).toNat = k := Int.toNat_natCast k
      exact ⟨_, rfl, q u H2 (kk.trans k2) (pen2.mono (by omega)) lowu (by omega)⟩
theorem sc_law : FnScope ["_law_script", "_law_pen_here", "_law_turn", "_law_text_here", "_law_due"] ["_law_script"] (defScope s_law) := ⟨rfl, rfl, rfl, by decide +kernel, rfl, by decide +kernel, by decide +kernel⟩
theorem law_ok {f : Addr} {fd : FuncData} (F : Fun K "law" "law" s_law f fd) (B : Blt mg) (C__law_pen : Cal P w K mg base 1 "_law_pen" (sp__law_pen K)) (C__law_any_text : Cal P w K mg base 6 "_law_any_text" sp__law_any_text) (C__law_read : Cal P w K mg base 2 "_law_read" (sp__law_read K)) (C__law_parsed : Cal P w K mg base 10 "_law_parsed" (sp__law_parsed K)) : Kept P w K mg base f fd ["_law_script"] (sp_law K) := by
  refine kept_of (k := 10) F sc_law (fun vs H Q E h => ?_) ⟨rfl, by decide, by decide⟩ (fun cdv s H vs Q E hr h => ?_)
  · obtain ⟨a, ns, rfl, _⟩ := h
    rfl
  · obtain ⟨a, ns, rfl, hS, hlen, k⟩ := h
    have nd := sc_law.nd
    have hu2 := hr.units
    have hg : (callerA.deeper (envOfC "law" (defScope s_law) s.heap.objs.size f cdv)).guards = some [] := rfl
    have hu0 : (callerA.deeper (envOfC "law" (defScope s_law) s.heap.objs.size f cdv)).units + 100 < cLine := by
      have := hr.un
      omega
    refine ⟨_, (pss_cons (ps_set (i := 1) nd rfl (.inl rfl) (pe_c C__law_pen hr (by decide) (by rfl) (pa_cons (pv 0) pa_nil)))
    (pss_cons (ps_for PassesOwn.never rfl (pi_range1 (by rfl) B.range (pa_cons pe_int pa_nil)) (pg_name (i := 2) nd rfl (.inl rfl))
      (pss_cons (ps_set (i := 3) nd rfl (.inl rfl) (pe_c C__law_any_text hr (by decide) (by rfl) (pa_cons (pv 1) pa_nil)))
    (pss_cons (ps_set (i := 4) nd rfl (.inl rfl) (pe_callB (call_reprX hg hu0) (by rfl) B.repr (by decide +kernel) (pa_cons (pe_c C__law_read hr (by decide) (by rfl) (pa_cons (pv 3) pa_nil)) pa_nil)))
    (pss_one (ps_if (PW.pt (pw_or (pt_cmpR op_ne (pe_callB (call_reprX hg hu0) (by rfl) B.repr (by decide +kernel) (pa_cons (pe_c C__law_parsed hr (by decide) (by rfl) (pa_cons (pv 3) pa_nil)) pa_nil)) (pv 4) (nomark _)) (pw_or1 (pt_cmpR op_ne (pe_callB (call_reprX hg hu0) (by rfl) B.repr (by decide +kernel) (pa_cons (pe_c C__law_parsed hr (by decide) (by rfl) (pa_cons (pv 3) pa_nil)) pa_nil)) (pv 4) (nomark _)))))
      (pss_one (ps_ret pe_bl))
      pss_nil)))))
    (pss_one (ps_ret pe_bl)))), ?_⟩
    refine ⟨_, rfl, a, ns, rfl, hS, fun p c H1 np s1 pen1 => ?_⟩
    refine ⟨14, rfl, by decide, by decide, for_range (lo := 0) (n := 14) (fun i σ H2 => ∃ (y2 y3 y4 : Option V), σ = [some (.ref a), some (.ref p), y2, y3, y4] ∧ PenAt H2 p c (2200 * i)) ⟨none, none, none, rfl, pen1⟩ ?_ ?_⟩
    · rintro i σ H2 hi ⟨y2, y3, y4, rfl, pen2⟩
      refine ⟨_, rfl, p, c, _, rfl, pen2, by omega, fun t H3 k3 pen3 low len => ?_⟩
      have few := tks_few t
      have says := lr_says (T := tksOf t) (by omega)
      have e := mrun_read (tksOf t)
      refine ⟨_, rfl, t, rfl, by omega, low, fun D1 H4 s4 h1 => ?_⟩
      rw [show mrun (tksOf t) 0 mInit = resR (readT (tksOf t)) from e] at h1
      refine ⟨.ref D1, _, rfl, .inl h1, says.1, says.2.1, says.2.2.1, says.2.2.2, ?_⟩
      refine ⟨_, rfl, t, rfl, by omega, fun D2 H5 s5 h2 => ?_⟩
      refine ⟨.ref D2, _, rfl, .inl h2, says.1, says.2.1, says.2.2.1, says.2.2.2, _, rfl, rfl, _, rfl, iteNY rfl ?_⟩
      refine ⟨_, rfl, t, rfl, by omega, fun D3 H6 s6 h3 => ?_⟩
      refine ⟨.ref D3, _, rfl, .inl h3, says.1, says.2.1, says.2.2.1, says.2.2.2, _, rfl, rfl, _, rfl, iteNY rfl ?_⟩
      exact ⟨_, _, _, rfl, (((pen3.same s4).same s5).same s6).mono (by omega)⟩
    · rintro σ H2 ⟨y2, y3, y4, rfl, pen2⟩
      exact k _
end
theorem all_mk {l : PySem.W.OpenLaw} {w : World} {K : PySem.W.Frag} {mg : Str → Option Value} {fa : Addr} (hfa : mg "law" = some (.ref fa)) (B : Blt mg)
    (D_is_whole : Df K mg "is_whole" s_is_whole)
    (D_is_count : Df K mg "is_count" s_is_count)
    (D_count_of : Df K mg "count_of" s_count_of)
    (D_parse_program : Df K mg "parse_program" s_parse_program)
    (D__law_pen : Df K mg "_law_pen" s__law_pen)
    (D__law_draw : Df K mg "_law_draw" s__law_draw)
    (D__law_pick : Df K mg "_law_pick" s__law_pick)
    (D__law_integer : Df K mg "_law_integer" s__law_integer)
    (D__law_body : Df K mg "_law_body" s__law_body)
    (D__law_program : Df K mg "_law_program" s__law_program)
    (D__law_wide_program : Df K mg "_law_wide_program" s__law_wide_program)
    (D__law_full_program : Df K mg "_law_full_program" s__law_full_program)
    (D__law_text : Df K mg "_law_text" s__law_text)
    (D__law_is_count : Df K mg "_law_is_count" s__law_is_count)
    (D__law_read : Df K mg "_law_read" s__law_read)
    (D__law_spoilt : Df K mg "_law_spoilt" s__law_spoilt)
    (D__law_parsed : Df K mg "_law_parsed" s__law_parsed)
    (D__law_any_text : Df K mg "_law_any_text" s__law_any_text)
    (G_GREATEST_COUNT : ∃ u, mg "GREATEST_COUNT" = some u ∧ ∃ tk, u = Value.int 1000000000000000000000000000000 tk)
    (G_DIGITS : ∃ u, mg "DIGITS" = some u ∧ ∃ tk, u = Value.str "0123456789" tk)
    (G_LONGEST_NUMBER : ∃ u, mg "LONGEST_NUMBER" = some u ∧ ∃ tk, u = Value.int 31 tk)
    (G_MOST_INSTRUCTIONS : ∃ u, mg "MOST_INSTRUCTIONS" = some u ∧ ∃ tk, u = Value.int 100 tk)
    (G_DEEPEST : ∃ u, mg "DEEPEST" = some u ∧ ∃ tk, u = Value.int 2 tk)
    (G_MOST_REPEATS : ∃ u, mg "MOST_REPEATS" = some u ∧ ∃ tk, u = Value.int 5 tk)
    (ZY : ∃ C CI C1 C2 C3, RdRaw K mg C ∧ TxRaw K mg CI ∧ IsPR K mg CI C1 C2 C3)
    (D_law : Df K mg "law" s_law) : ∃ fd : FuncData, (∀ (s : Shared) (v : Value), BindsTo s fd ⟨[v], []⟩ [("_law_script", v)]) ∧ ∀ base : Heap, K.In base → base.Ns mainGlobals mg → Kept l.prog w K mg base fa fd ["_law_script"] (sp_law K) := by
  obtain ⟨_, G_GREATEST_COUNT, tk_G_GREATEST_COUNT, rfl⟩ := G_GREATEST_COUNT
  obtain ⟨_, G_DIGITS, tk_G_DIGITS, rfl⟩ := G_DIGITS
  obtain ⟨_, G_LONGEST_NUMBER, tk_G_LONGEST_NUMBER, rfl⟩ := G_LONGEST_NUMBER
  obtain ⟨_, G_MOST_INSTRUCTIONS, tk_G_MOST_INSTRUCTIONS, rfl⟩ := G_MOST_INSTRUCTIONS
  obtain ⟨_, G_DEEPEST, tk_G_DEEPEST, rfl⟩ := G_DEEPEST
  obtain ⟨_, G_MOST_REPEATS, tk_G_MOST_REPEATS, rfl⟩ := G_MOST_REPEATS
  obtain ⟨C, CI, C1, C2, C3, R, Z0, Y⟩ := ZY
  refine law_of hfa D_law (fun _ _ _ _ _ _ s v => .of_eq rfl) fun base f fd F => ?_
  have C_is_whole : Cal l.prog w K mg base 1 "is_whole" (sp_is_whole K) := cal_of (ps := ["value"]) D_is_whole (fun _ _ _ _ _ _ us hl => match us, hl with | [_], _ => rfl) fun f fd F => ok_is_whole F B
  have C_is_count : Cal l.prog w K mg base 2 "is_count" sp_is_countZ := cal_of (ps := ["value"]) D_is_count (fun _ _ _ _ _ _ us hl => match us, hl with | [_], _ => rfl) fun f fd F => ok_is_count F B G_GREATEST_COUNT C_is_whole
  have C_count_of : Cal l.prog w K mg base 3 "count_of" sp_count_of := cal_of (ps := ["token"]) D_count_of (fun _ _ _ _ _ _ us hl => match us, hl with | [_], _ => rfl) fun f fd F => ok_count_of F B G_DIGITS G_LONGEST_NUMBER C_is_count
  have T := R.cl
  have Z : TxtF l.prog w K mg base CI := tx_of Z0
  have MK_Reader : MkF l.prog w K mg base "Reader" C 1 (sp_reader C) := mkR_of R
  have M_has_ended : MetC CX0 l.prog w K mg base C 1 "has_ended" (sp_has_ended C) := met_of (ps := ["self"]) R.d1 (fun _ _ _ _ _ _ us hl => match us, hl with | [_], _ => rfl) fun f fd F => ok_Reader_has_ended F B T
  have M_token : MetC (L2.CX l.prog w) l.prog w K mg base C 3 "token" (sp_token C CI) := met_of (ps := ["self"]) R.d2 (fun _ _ _ _ _ _ us hl => match us, hl with | [_], _ => rfl) fun f fd F => ok_Reader_token F B T Z M_has_ended
  have M_read_word : MetC (L2.CX l.prog w) l.prog w K mg base C 4 "read_word" (sp_read_word C CI) := met_of (ps := ["self", "depth"]) R.d3 (fun _ _ _ _ _ _ us hl => match us, hl with | [_, _], _ => rfl) fun f fd F => ok_Reader_read_word F B T Z G_MOST_INSTRUCTIONS G_DEEPEST G_MOST_REPEATS M_token
  have M_read_count : MetC (L2.CX l.prog w) l.prog w K mg base C 4 "read_count" (sp_read_count C CI) := met_of (ps := ["self", "least"]) R.d4 (fun _ _ _ _ _ _ us hl => match us, hl with | [_, _], _ => rfl) fun f fd F => ok_Reader_read_count F B T Z M_token C_count_of
  have M_read_bracket : MetC (L2.CX l.prog w) l.prog w K mg base C 4 "read_bracket" (sp_read_bracket C CI) := met_of (ps := ["self"]) R.d5 (fun _ _ _ _ _ _ us hl => match us, hl with | [_], _ => rfl) fun f fd F => ok_Reader_read_bracket F B T Z M_token
  have M_read_instruction : MetC (L2.CX l.prog w) l.prog w K mg base C (3 + 5) "read_instruction" (sp_read_instruction K C CI 3) := met_rec (ps := ["self", "depth"]) 5 (sp := sp_read_instruction K C CI) R.d6 (fun _ _ _ _ _ _ us hl => match us, hl with | [_, _], _ => rfl) (fun vs H Q E h => by obtain ⟨_, _, _, _, _, z, _⟩ := h; exact absurd z (Nat.not_lt_zero _)) (fun k M f fd F => ok_Reader_read_instruction k M F B T Z G_GREATEST_COUNT M_token M_read_word M_read_count M_read_bracket) 3
  have C_parse_program : CalE l.prog w K mg base 9 "parse_program" (sp_parse_program K CI) := cal_ofE (ps := ["text"]) D_parse_program (fun _ _ _ _ _ _ us hl => match us, hl with | [_], _ => rfl) fun f fd F => ok_parse_program F B (T) (Z) MK_Reader M_has_ended M_read_instruction
  have C__law_pen : Cal l.prog w K mg base 1 "_law_pen" (sp__law_pen K) := cal_of (ps := ["_law_script"]) D__law_pen (fun _ _ _ _ _ _ us hl => match us, hl with | [_], _ => rfl) fun f fd F => ok__law_pen F B
  have C__law_draw : Cal l.prog w K mg base 1 "_law_draw" sp__law_draw := cal_of (ps := ["_law_pen_here", "_law_many"]) D__law_draw (fun _ _ _ _ _ _ us hl => match us, hl with | [_, _], _ => rfl) fun f fd F => ok__law_draw F B
  have C__law_pick : Cal l.prog w K mg base 2 "_law_pick" sp__law_pick := cal_of (ps := ["_law_pen_here", "_law_options"]) D__law_pick (fun _ _ _ _ _ _ us hl => match us, hl with | [_, _], _ => rfl) fun f fd F => ok__law_pick F B C__law_draw
  have C__law_pickS : Cal l.prog w K mg base 2 "_law_pick" sp__law_pickS := cal_of (ps := ["_law_pen_here", "_law_options"]) D__law_pick (fun _ _ _ _ _ _ us hl => match us, hl with | [_, _], _ => rfl) fun f fd F => ok__law_pickS F B C__law_draw
  have C__law_integer : Cal l.prog w K mg base 2 "_law_integer" sp__law_integer := cal_of (ps := ["_law_pen_here", "_law_most"]) D__law_integer (fun _ _ _ _ _ _ us hl => match us, hl with | [_, _], _ => rfl) fun f fd F => ok__law_integer F B C__law_draw
  have C__law_body : Cal l.prog w K mg base 3 "_law_body" (sp__law_bodyG K) := cal_of (ps := ["_law_pen_here", "_law_most", "_law_reach"]) D__law_body (fun _ _ _ _ _ _ us hl => match us, hl with | [_, _, _], _ => rfl) fun f fd F => ok__law_body F B C__law_draw C__law_pick C__law_integer
  have C__law_program : Cal l.prog w K mg base 4 "_law_program" (sp__law_programG K) := cal_of (ps := ["_law_pen_here", "_law_most", "_law_reach", "_law_rounds"]) D__law_program (fun _ _ _ _ _ _ us hl => match us, hl with | [_, _, _, _], _ => rfl) fun f fd F => ok__law_program F B C__law_draw C__law_body
  have C__law_wide_program : Cal l.prog w K mg base 5 "_law_wide_program" (sp__law_wide_programG K) := cal_of (ps := ["_law_pen_here", "_law_most"]) D__law_wide_program (fun _ _ _ _ _ _ us hl => match us, hl with | [_, _], _ => rfl) fun f fd F => ok__law_wide_program F B C__law_pick C__law_program
  have C__law_full_program : Cal l.prog w K mg base 3 "_law_full_program" (sp__law_full_programG K) := cal_of (ps := ["_law_pen_here"]) D__law_full_program (fun _ _ _ _ _ _ us hl => match us, hl with | [_], _ => rfl) fun f fd F => ok__law_full_program F B C__law_draw C__law_pick C__law_integer
  have C__law_text : Cal l.prog w K mg base (3 + 0) "_law_text" (sp__law_text K 3) := cal_rec (ps := ["_law_program_here"]) 0 (sp := sp__law_text K) D__law_text (fun _ _ _ _ _ _ us hl => match us, hl with | [_], _ => rfl) (fun vs H Q E h => by obtain ⟨_, _, _, _, z, _⟩ := h; exact absurd z (Nat.not_lt_zero _)) (fun k C f fd F => ok__law_text k C F B) 3
  have C__law_is_count : Cal l.prog w K mg base 1 "_law_is_count" sp__law_is_count := cal_of (ps := ["_law_token", "_law_least"]) D__law_is_count (fun _ _ _ _ _ _ us hl => match us, hl with | [_, _], _ => rfl) fun f fd F => ok__law_is_count F B
  have C__law_read : Cal l.prog w K mg base 2 "_law_read" (sp__law_read K) := cal_of (ps := ["_law_text_here"]) D__law_read (fun _ _ _ _ _ _ us hl => match us, hl with | [_], _ => rfl) fun f fd F => ok__law_read F B C__law_is_count
  have C__law_spoilt : Cal l.prog w K mg base 3 "_law_spoilt" sp__law_spoilt := cal_of (ps := ["_law_pen_here", "_law_text_here"]) D__law_spoilt (fun _ _ _ _ _ _ us hl => match us, hl with | [_, _], _ => rfl) fun f fd F => ok__law_spoilt F B C__law_draw C__law_pick C__law_pickS
  have C__law_parsed : Cal l.prog w K mg base 10 "_law_parsed" (sp__law_parsed K) := cal_of (ps := ["_law_text_here"]) D__law_parsed (fun _ _ _ _ _ _ us hl => match us, hl with | [_], _ => rfl) fun f fd F => ok__law_parsed F B (Z) (Y) C_parse_program
  have C__law_any_text : Cal l.prog w K mg base 6 "_law_any_text" sp__law_any_text := cal_of (ps := ["_law_pen_here"]) D__law_any_text (fun _ _ _ _ _ _ us hl => match us, hl with | [_], _ => rfl) fun f fd F => ok__law_any_text F B C__law_draw C__law_pick C__law_full_program C__law_wide_program C__law_text C__law_spoilt
  exact law_ok F B C__law_pen C__law_any_text C__law_read C__law_parsed
end DR
open PySem PySem.W PyProof.Rows
set_option maxRecDepth 100000 in
set_option maxHeartbeats 0 in
theorem PySem.Challenge.cw_dialroad_k45_texts_refused_holds : PySem.Challenge.rw_dialroad_k45_texts_refused.Holds := by
  w_on; o_law; k_head; (case hw => w_witness2)
  k_fill
  refine DR.walk_kept (l := PySem.Challenge.rw_dialroad_k45_texts_refused) (sp := DR.sp_law) (x := "_law_script") rfl rfl (fun w h Y => PySem.W.kIn_of Y) ?F fun K H a ns hl hS => ⟨a, ns, rfl, hS, hl, fun _ => rfl⟩
  case F =>
    intro w mg fa h KX G hmg
    refine' DR.all_mk hmg ⟨PySem.W.mg_none_of KX G ?z_tuple, PySem.W.mg_none_of KX G ?z_sorted, PySem.W.mg_none_of KX G ?z_range, PySem.W.mg_none_of KX G ?z_list, PySem.W.mg_none_of KX G ?z_len, PySem.W.mg_none_of KX G ?z_abs, PySem.W.mg_none_of KX G ?z_repr, PySem.W.mg_none_of KX G ?z_int, PySem.W.mg_none_of KX G ?z_bool, PySem.W.mg_none_of KX G ?z_dict, PySem.W.mg_none_of KX G ?z_min, PySem.W.mg_none_of KX G ?z_max, PySem.W.mg_none_of KX G ?z_zip, PySem.W.mg_none_of KX G ?z_all, PySem.W.mg_none_of KX G ?z_isinstance, PySem.W.mg_none_of KX G ?z_sum, PySem.W.mg_none_of KX G ?z_any, PySem.W.mg_none_of KX G ?z_str, PySem.W.mg_none_of KX G ?z_set, PySem.W.mg_none_of KX G ?z_reversed, PySem.W.mg_none_of KX G ?z_enumerate⟩ ?D_is_whole ?D_is_count ?D_count_of ?D_parse_program ?D__law_pen ?D__law_draw ?D__law_pick ?D__law_integer ?D__law_body ?D__law_program ?D__law_wide_program ?D__law_full_program ?D__law_text ?D__law_is_count ?D__law_read ?D__law_spoilt ?D__law_parsed ?D__law_any_text ?G_GREATEST_COUNT ?G_DIGITS ?G_LONGEST_NUMBER ?G_MOST_INSTRUCTIONS ?G_DEEPEST ?G_MOST_REPEATS ?ZY ?D_law
    (case G_GREATEST_COUNT => refine' ⟨?u0, PySem.W.mg_of KX G ?gz0, ?gy0⟩; (case gz0 => k_is); (case gy0 => exact ⟨_, rfl⟩))
    (case G_DIGITS => refine' ⟨?u1, PySem.W.mg_of KX G ?gz1, ?gy1⟩; (case gz1 => k_is); (case gy1 => exact ⟨_, rfl⟩))
    (case G_LONGEST_NUMBER => refine' ⟨?u2, PySem.W.mg_of KX G ?gz2, ?gy2⟩; (case gz2 => k_is); (case gy2 => exact ⟨_, rfl⟩))
    (case G_MOST_INSTRUCTIONS => refine' ⟨?u3, PySem.W.mg_of KX G ?gz3, ?gy3⟩; (case gz3 => k_is); (case gy3 => exact ⟨_, rfl⟩))
    (case G_DEEPEST => refine' ⟨?u4, PySem.W.mg_of KX G ?gz4, ?gy4⟩; (case gz4 => k_is); (case gy4 => exact ⟨_, rfl⟩))
    (case G_MOST_REPEATS => refine' ⟨?u5, PySem.W.mg_of KX G ?gz5, ?gy5⟩; (case gz5 => k_is); (case gy5 => exact ⟨_, rfl⟩))
    (case ZY => refine' ⟨?C, ?CI, ?C1, ?C2, ?C3, ⟨⟨⟨?rp, ?rh, ?ro, ?rs⟩, DR.no_attr ?ra, DR.no_attr ?rb, DR.no_attr ?rc, DR.no_attr ?rd, PySem.W.mg_of KX G ?rg⟩, ⟨?mf, _, ⟨?m1, ?m2, ?m3, ?m4⟩, L2.fun_mk (st := DR.s_Reader___init__) ?ml ?mc ?mk⟩, ⟨⟨?q0f, _, L2.fun_mk (st := DR.s_Reader_has_ended) ?q0l ?q0c ?q0k, ⟨?q0a, ?q0b, ?q0d⟩⟩⟩, ⟨⟨?q1f, _, L2.fun_mk (st := DR.s_Reader_token) ?q1l ?q1c ?q1k, ⟨?q1a, ?q1b, ?q1d⟩⟩⟩, ⟨⟨?q2f, _, L2.fun_mk (st := DR.s_Reader_read_word) ?q2l ?q2c ?q2k, ⟨?q2a, ?q2b, ?q2d⟩⟩⟩, ⟨⟨?q3f, _, L2.fun_mk (st := DR.s_Reader_read_count) ?q3l ?q3c ?q3k, ⟨?q3a, ?q3b, ?q3d⟩⟩⟩, ⟨⟨?q4f, _, L2.fun_mk (st := DR.s_Reader_read_bracket) ?q4l ?q4c ?q4k, ⟨?q4a, ?q4b, ?q4d⟩⟩⟩, ⟨⟨?q5f, _, L2.fun_mk (st := DR.s_Reader_read_instruction) ?q5l ?q5c ?q5k, ⟨?q5a, ?q5b, ?q5d⟩⟩⟩⟩, ⟨PySem.W.mg_of KX G ?z1, ⟨PySem.F.excBase_ValueError, PySem.F.store_ValueError, ?i1, ?i2, ⟨?o1, ?o2⟩, ⟨?s1, ?s2, ?s3⟩, ?b1, ?t1⟩, ?n1, ⟨?fI, _, ?f1, ?f2, L2.fun_mk (st := DR.s_InvalidText___init__) ?l1 ?l2 ?l3⟩⟩, ⟨PySem.W.mg_none_of KX G ?a1, PySem.W.mg_of KX G ?a2, PySem.W.mg_of KX G ?a3, PySem.W.mg_of KX G ?a4, ?e5, ?e6, ⟨?c1, ?c2, ?c3, ?c4, ?c5, ?c6, ?c7, ?c8⟩, ?e7⟩⟩; (case rg => k_is); (case rp => k_is); (case rh => k_is); (case ro => k_is); (case rs => k_is); (case ra => k_is); (case rb => k_is); (case rc => k_is); (case rd => k_is); (case m1 => k_is); (case m2 => k_is); (case m3 => k_is); (case m4 => k_is); (case ml => k_is); (case mc => k_is); (case mk => k_is); (case q0a => k_is); (case q0b => k_is); (case q0d => k_is); (case q0l => k_is); (case q0c => k_is); (case q0k => k_is); (case q1a => k_is); (case q1b => k_is); (case q1d => k_is); (case q1l => k_is); (case q1c => k_is); (case q1k => k_is); (case q2a => k_is); (case q2b => k_is); (case q2d => k_is); (case q2l => k_is); (case q2c => k_is); (case q2k => k_is); (case q3a => k_is); (case q3b => k_is); (case q3d => k_is); (case q3l => k_is); (case q3c => k_is); (case q3k => k_is); (case q4a => k_is); (case q4b => k_is); (case q4d => k_is); (case q4l => k_is); (case q4c => k_is); (case q4k => k_is); (case q5a => k_is); (case q5b => k_is); (case q5d => k_is); (case q5l => k_is); (case q5c => k_is); (case q5k => k_is); (case z1 => k_is); (case i1 => kx_is); (case i2 => kx_is); (case o1 => k_is); (case o2 => k_is); (case s1 => k_is); (case s2 => k_is); (case s3 => k_is); (case b1 => k_is); (case t1 => k_is); (case n1 => k_is); (case f1 => k_is); (case f2 => k_is); (case l1 => k_is); (case l2 => k_is); (case l3 => k_is); (case a1 => k_is); (case a2 => k_is); (case a3 => k_is); (case a4 => k_is); (case e5 => kit_is); (case e6 => kit_is); (case e7 => kts_exm); (case c1 => k_is); (case c2 => k_is); (case c3 => k_is); (case c4 => k_is); (case c5 => k_is); (case c6 => k_is); (case c7 => k_is); (case c8 => k_is))
    (case z_tuple => k_is)
    (case z_sorted => k_is)
    (case z_range => k_is)
    (case z_list => k_is)
    (case z_len => k_is)
    (case z_abs => k_is)
    (case z_repr => k_is)
    (case z_int => k_is)
    (case z_bool => k_is)
    (case z_dict => k_is)
    (case z_min => k_is)
    (case z_max => k_is)
    (case z_zip => k_is)
    (case z_all => k_is)
    (case z_isinstance => k_is)
    (case z_sum => k_is)
    (case z_any => k_is)
    (case z_str => k_is)
    (case z_set => k_is)
    (case z_reversed => k_is)
    (case z_enumerate => k_is)
    (case D_is_whole => refine' DR.df_mk KX G ?a ?l ?c ?k; (case a => k_is); (case l => k_is); (case c => k_is); (case k => k_is))
    (case D_is_count => refine' DR.df_mk KX G ?a ?l ?c ?k; (case a => k_is); (case l => k_is); (case c => k_is); (case k => k_is))
    (case D_count_of => refine' DR.df_mk KX G ?a ?l ?c ?k; (case a => k_is); (case l => k_is); (case c => k_is); (case k => k_is))
    (case D_parse_program => refine' DR.df_mk KX G ?a ?l ?c ?k; (case a => k_is); (case l => k_is); (case c => k_is); (case k => k_is))
    (case D__law_pen => refine' DR.df_mk KX G ?a ?l ?c ?k; (case a => k_is); (case l => k_is); (case c => k_is); (case k => k_is))
    (case D__law_draw => refine' DR.df_mk KX G ?a ?l ?c ?k; (case a => k_is); (case l => k_is); (case c => k_is); (case k => k_is))
    (case D__law_pick => refine' DR.df_mk KX G ?a ?l ?c ?k; (case a => k_is); (case l => k_is); (case c => k_is); (case k => k_is))
    (case D__law_integer => refine' DR.df_mk KX G ?a ?l ?c ?k; (case a => k_is); (case l => k_is); (case c => k_is); (case k => k_is))
    (case D__law_body => refine' DR.df_mk KX G ?a ?l ?c ?k; (case a => k_is); (case l => k_is); (case c => k_is); (case k => k_is))
    (case D__law_program => refine' DR.df_mk KX G ?a ?l ?c ?k; (case a => k_is); (case l => k_is); (case c => k_is); (case k => k_is))
    (case D__law_wide_program => refine' DR.df_mk KX G ?a ?l ?c ?k; (case a => k_is); (case l => k_is); (case c => k_is); (case k => k_is))
    (case D__law_full_program => refine' DR.df_mk KX G ?a ?l ?c ?k; (case a => k_is); (case l => k_is); (case c => k_is); (case k => k_is))
    (case D__law_text => refine' DR.df_mk KX G ?a ?l ?c ?k; (case a => k_is); (case l => k_is); (case c => k_is); (case k => k_is))
    (case D__law_is_count => refine' DR.df_mk KX G ?a ?l ?c ?k; (case a => k_is); (case l => k_is); (case c => k_is); (case k => k_is))
    (case D__law_read => refine' DR.df_mk KX G ?a ?l ?c ?k; (case a => k_is); (case l => k_is); (case c => k_is); (case k => k_is))
    (case D__law_spoilt => refine' DR.df_mk KX G ?a ?l ?c ?k; (case a => k_is); (case l => k_is); (case c => k_is); (case k => k_is))
    (case D__law_parsed => refine' DR.df_mk KX G ?a ?l ?c ?k; (case a => k_is); (case l => k_is); (case c => k_is); (case k => k_is))
    (case D__law_any_text => refine' DR.df_mk KX G ?a ?l ?c ?k; (case a => k_is); (case l => k_is); (case c => k_is); (case k => k_is))
    (case D_law => refine' DR.df_mk KX G ?a ?l ?c ?k; (case a => k_is); (case l => k_is); (case c => k_is); (case k => k_is))
