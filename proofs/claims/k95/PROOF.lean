import PyProof.Rows.All
import Wide.All
import OpenK.AllK
import Wide.FinOn
import HandS.Base
import HandS.Call
import HandS.List
import HandS.Comp
import HandS.Dict
import HandS.Iter
import HandS.Ends
import HandS.Words
import HandS.More
import HandS.Wide
import HandS.TupAny
import HandS.IsInst
import HandS.Zip
import HandS.Flow
import HandS.ForMost
import HandS.NoneIn
import HandS.SortInts
import PyProof.ReprRoads
import PyProof.ReprLen
import KE.KNestM
import KE.KLam
import HandS.Lambda
import HandS.EndTab
import KE.SortKeyHeap
import HandS.SortKw
import HandS.Text
import HandS.StrMore
import HandS.Style
import HandS.TupLe
import HandS.DictComp
import HandS.Small
import HandS.ExcIs
import HandS.WordsExc
import HandS.ExcOwn
import PyProof.ExcBaseAll.ArithmeticError
import PyProof.ExcBaseAll.ValueError
import KE.KExcInit
import HandS.ExcInit
import KE.KExcIs
import HandS.Walk
import HandS.ListItems
import HandS.Sort
import KE.KDictPairs
import PyProof.NeKinds
import HandS.ListEq
import HandS.DeepEq
import HandS.Conv
import HandS.DictTup
import KE.KeyNested
import KE.KDictKeyed
import KE.KDictWalk
import HandS.Spec
import HandS.Records
import KE.DataFind
import HandS.SetFor
import HandS.Strs
import HandS.TupSets
import HandS.TryOnly
import PyProof.StrBlock2
import PyProof.StrLawsRepr
import PyProof.EqKinds
import PyProof.Rows.IntBool
import PyProof.Rows.EqBoolInt
import HandS.Defaults
import HandS.Rev
import HandS.OwnEq
import HandS.Codes
import PyProof.InstEq
import PyProof.InstNe
import HandS.Finally
import HandS.FStr
import KE.GoesEnumKw
import HandS.Style
import KE.RegKIsAll
import KE.RegKTryMore
import KE.KExcLine
import HandS.IsInst
import PySem.Challenge.RW_dialroad_k95_whole_road_of_effects
set_option Elab.async false
set_option linter.all false
set_option maxRecDepth 100000
set_option maxHeartbeats 4000000
set_option exponentiation.threshold 500
/-! Polynomials as lists of pairs (exponent, coefficient): what they are worth, and when two of them are one. -/
namespace DR
abbrev Pol := List (Int × Int)
/-- the sum of the coefficients at e -/
def cf : Pol → Int → Int
  | [], _ => 0
  | t :: r, e => (if t.1 = e then t.2 else 0) + cf r e
theorem cf_nil (e : Int) : cf [] e = 0 := rfl
theorem cf_cons (t : Int × Int) (r : Pol) (e : Int) : cf (t :: r) e = (if t.1 = e then t.2 else 0) + cf r e := rfl
theorem cf_append : ∀ (f g : Pol) (e : Int), cf (f ++ g) e = cf f e + cf g e
  | [], g, e => by simp [cf]
  | t :: r, g, e => by
    rw [List.cons_append, cf_cons, cf_cons, cf_append r g e]
    omega
theorem cf_none : ∀ (f : Pol) (e : Int), (∀ t ∈ f, t.1 ≠ e) → cf f e = 0
  | [], _, _ => rfl
  | t :: r, e, h => by
    rw [cf_cons, if_neg (h t List.mem_cons_self), cf_none r e fun u hu => h u (List.mem_cons_of_mem _ hu)]
    rfl
theorem cf_ne {f : Pol} {e : Int} (h : cf f e ≠ 0) : ∃ t ∈ f, t.1 = e := by
  refine Classical.byContradiction fun q => h (cf_none f e fun t ht z => q ⟨t, ht, z⟩)
/-- canonical: ascending, coefficients from 1 to p - 1, worth F modulo p -/
structure Nf (p : Int) (g : Pol) (F : Int → Int) : Prop where
  asc : g.Pairwise fun x y => x.1 < y.1
  rng : ∀ t ∈ g, 0 < t.2 ∧ t.2 < p
  cof : ∀ e, cf g e = F e % p
theorem cf_head {t : Int × Int} {r : Pol} (h : (t :: r).Pairwise fun x y => x.1 < y.1) : cf (t :: r) t.1 = t.2 := by
  rw [cf_cons, if_pos rfl, cf_none r t.1 fun u hu z => ?_]
  · omega
  · have := (List.pairwise_cons.mp h).1 u hu
    omega
theorem asc_le {t : Int × Int} {r : Pol} (h : (t :: r).Pairwise fun x y => x.1 < y.1) {u : Int × Int} (hu : u ∈ t :: r) : t.1 ≤ u.1 := by
  rcases List.mem_cons.mp hu with e | e
  · rw [e]
    exact Int.le_refl _
  · exact Int.le_of_lt ((List.pairwise_cons.mp h).1 u e)
theorem cf_mem : ∀ {g : Pol}, (g.Pairwise fun x y => x.1 < y.1) → ∀ t ∈ g, cf g t.1 = t.2
  | [], _, t, h => absurd h List.not_mem_nil
  | u :: r, hp, t, h => by
    rcases List.mem_cons.mp h with e | e
    · rw [e]
      exact cf_head hp
    · have hlt := (List.pairwise_cons.mp hp).1 t e
      rw [cf_cons, if_neg (by omega), cf_mem (List.pairwise_cons.mp hp).2 t e]
      omega
theorem asc_ext : ∀ {g g' : Pol}, (g.Pairwise fun x y => x.1 < y.1) → (g'.Pairwise fun x y => x.1 < y.1) → (∀ t ∈ g, t.2 ≠ 0) → (∀ t ∈ g', t.2 ≠ 0) → (∀ e, cf g e = cf g' e) → g = g'
  | [], [], _, _, _, _, _ => rfl
  | [], u :: s, _, h', _, n', c => by
    have := c u.1
    rw [cf_head h'] at this
    exact absurd this.symm (n' u List.mem_cons_self)
  | t :: r, [], h, _, n, _, c => by
    have := c t.1
    rw [cf_head h] at this
    exact absurd this (n t List.mem_cons_self)
  | t :: r, u :: s, h, h', n, n', c => by
    have a1 : t.1 = u.1 := by
      have e1 := c t.1
      rw [cf_head h] at e1
      obtain ⟨x, hx, ex⟩ := cf_ne (f := u :: s) (e := t.1) (by rw [← e1]; exact n t List.mem_cons_self)
      have e2 := c u.1
      rw [cf_head h'] at e2
      obtain ⟨y, hy, ey⟩ := cf_ne (f := t :: r) (e := u.1) (by rw [e2]; exact n' u List.mem_cons_self)
      have l1 := asc_le h' hx
      have l2 := asc_le h hy
      omega
    have a2 : t.2 = u.2 := by
      have e1 := c t.1
      rw [cf_head h, a1, cf_head h'] at e1
      exact e1
    have e : t = u := Prod.ext a1 a2
    subst e
    congr 1
    refine asc_ext (List.pairwise_cons.mp h).2 (List.pairwise_cons.mp h').2 (fun x hx => n x (List.mem_cons_of_mem _ hx)) (fun x hx => n' x (List.mem_cons_of_mem _ hx)) fun e => ?_
    have := c e
    rw [cf_cons, cf_cons] at this
    omega
theorem Nf.uniq {p : Int} {g g' : Pol} {F F' : Int → Int} (a : Nf p g F) (b : Nf p g' F') (h : ∀ e, F e % p = F' e % p) : g = g' :=
  asc_ext a.asc b.asc (fun t ht => by have := a.rng t ht; omega) (fun t ht => by have := b.rng t ht; omega) fun e => by rw [a.cof, b.cof, h]
theorem Nf.to {p : Int} {g : Pol} {F F' : Int → Int} (a : Nf p g F) (h : ∀ e, F e % p = F' e % p) : Nf p g F' := ⟨a.asc, a.rng, fun e => by rw [a.cof, h]⟩
theorem Nf.self {p : Int} {g : Pol} {F : Int → Int} (a : Nf p g F) : Nf p g (cf g) := a.to fun e => by rw [a.cof, Int.emod_emod]
/-- every exponent of g is one of f's, where g is worth nothing where f has no exponent -/
theorem Nf.sub {p : Int} {g : Pol} {F : Int → Int} (a : Nf p g F) {L : List Int} (h : ∀ e, e ∉ L → F e % p = 0) : ∀ t ∈ g, t.1 ∈ L := fun t ht => by
  refine Classical.byContradiction fun n => ?_
  have e1 := a.cof t.1
  rw [cf_mem a.asc t ht, h _ n] at e1
  have := (a.rng t ht).1
  omega
theorem nd_len : ∀ {L M : List Int}, L.Nodup → (∀ x ∈ L, x ∈ M) → L.length ≤ M.length
  | [], M, _, _ => Nat.zero_le _
  | x :: L, M, h, s => by
    have hx : x ∈ M := s x List.mem_cons_self
    have n := (List.nodup_cons.mp h)
    have := nd_len (L := L) (M := M.erase x) n.2 fun y hy => by
      have hne : y ≠ x := fun e => n.1 (e ▸ hy)
      exact (List.mem_erase_of_ne hne).mpr (s y (List.mem_cons_of_mem _ hy))
    rw [List.length_erase_of_mem hx] at this
    have hp : 0 < M.length := List.length_pos_of_mem hx
    rw [List.length_cons]
    omega
theorem asc_nodup {g : Pol} (h : g.Pairwise fun x y => x.1 < y.1) : (g.map (·.1)).Nodup := by
  rw [List.nodup_iff_pairwise_ne, List.pairwise_map]
  exact h.imp fun q => by omega
theorem Nf.len {p : Int} {g : Pol} {F : Int → Int} (a : Nf p g F) {L : List Int} (h : ∀ e, e ∉ L → F e % p = 0) : g.length ≤ L.length := by
  have := nd_len (asc_nodup a.asc) (M := L) fun x hx => by
    obtain ⟨t, ht, rfl⟩ := List.mem_map.mp hx
    exact a.sub h t ht
  rw [List.length_map] at this
  exact this
theorem cf_out {f : Pol} {e : Int} (h : e ∉ f.map (·.1)) : cf f e = 0 := cf_none f e fun t ht z => h (z ▸ List.mem_map_of_mem ht)
/-! a dict of ints, by its pairs -/
def put : Pol → Int → Int → Pol
  | [], e, v => [(e, v)]
  | t :: r, e, v => if t.1 = e then (e, v) :: r else t :: put r e v
theorem put_keys : ∀ (m : Pol) (e v x : Int), x ∈ (put m e v).map (·.1) → x = e ∨ x ∈ m.map (·.1)
  | [], e, v, x, h => by
    have : x = e := by simpa [put] using h
    exact .inl this
  | t :: r, e, v, x, h => by
    unfold put at h
    split at h
    · rename_i q
      rcases List.mem_cons.mp h with z | z
      · exact .inl z
      · exact .inr (List.mem_cons_of_mem _ z)
    · rcases List.mem_cons.mp h with z | z
      · exact .inr (by rw [z]; exact List.mem_cons_self)
      · rcases put_keys r e v x z with w | w
        · exact .inl w
        · exact .inr (List.mem_cons_of_mem _ w)
theorem put_nodup : ∀ (m : Pol) (e v : Int), (m.map (·.1)).Nodup → ((put m e v).map (·.1)).Nodup
  | [], e, v, _ => by simp [put]
  | t :: r, e, v, h => by
    have h' : (t.1 :: r.map (·.1)).Nodup := h
    have n := List.nodup_cons.mp h'
    unfold put
    split
    · rename_i q
      show (e :: r.map (·.1)).Nodup
      rw [← q]
      exact h'
    · rename_i q
      show (t.1 :: (put r e v).map (·.1)).Nodup
      refine List.nodup_cons.mpr ⟨fun z => ?_, put_nodup r e v n.2⟩
      rcases put_keys r e v t.1 z with w | w
      · exact q w
      · exact n.1 w
theorem put_cf : ∀ (m : Pol) (e v x : Int), (m.map (·.1)).Nodup → cf (put m e v) x = if x = e then v else cf m x
  | [], e, v, x, _ => by
    show (if e = x then v else 0) + 0 = _
    by_cases q : x = e
    · rw [if_pos q, if_pos q.symm]
      omega
    · rw [if_neg q, if_neg (fun z => q z.symm)]
      rfl
  | t :: r, e, v, x, h => by
    have h' : (t.1 :: r.map (·.1)).Nodup := h
    have n := List.nodup_cons.mp h'
    unfold put
    split
    · rename_i q
      rw [cf_cons, cf_cons]
      by_cases z : x = e
      · rw [if_pos z, if_pos z.symm, cf_out (f := r) (e := x) (by rw [z, ← q]; exact n.1)]
        omega
      · rw [if_neg z, if_neg (fun w => z w.symm), if_neg (fun w => z (w.symm.trans q))]
    · rename_i q
      rw [cf_cons, cf_cons, put_cf r e v x n.2]
      by_cases z : x = e
      · rw [if_pos z, if_pos z, if_neg (by omega)]
        omega
      · rw [if_neg z, if_neg z]
theorem put_len : ∀ (m : Pol) (e v : Int), (put m e v).length ≤ m.length + 1
  | [], _, _ => Nat.le_refl _
  | t :: r, e, v => by
    unfold put
    split
    · exact Nat.le_succ _
    · have := put_len r e v
      rw [List.length_cons, List.length_cons]
      omega
/-! what the sorted keys give -/
def kept (p : Int) (F : Int → Int) (ys : List Int) : Pol := (ys.filter fun e => decide (F e % p ≠ 0)).map fun e => (e, F e % p)
theorem kept_snoc (p : Int) (F : Int → Int) (ys : List Int) (e : Int) : kept p F (ys ++ [e]) = kept p F ys ++ (if F e % p ≠ 0 then [(e, F e % p)] else []) := by
  unfold kept
  rw [List.filter_append, List.map_append]
  congr 1
  by_cases h : F e % p ≠ 0
  · rw [if_pos h]
    simp [h]
  · rw [if_neg h]
    have : F e % p = 0 := Classical.byContradiction h
    simp [this]
theorem kept_cf (p : Int) (F : Int → Int) : ∀ (ys : List Int) (x : Int), ys.Nodup → cf (kept p F ys) x = if x ∈ ys then F x % p else 0
  | [], x, _ => by simp [kept, cf]
  | y :: r, x, h => by
    have n := List.nodup_cons.mp h
    have ih := kept_cf p F r x n.2
    have e : kept p F (y :: r) = (if F y % p ≠ 0 then [(y, F y % p)] else []) ++ kept p F r := by
      unfold kept
      rw [List.filter_cons]
      by_cases q : F y % p ≠ 0
      · simp [q]
      · have : F y % p = 0 := Classical.byContradiction q
        simp [this]
    rw [e, cf_append, ih]
    by_cases z : x = y
    · subst z
      rw [if_neg n.1, if_pos List.mem_cons_self]
      by_cases q : F x % p ≠ 0
      · rw [if_pos q]
        simp [cf]
      · rw [if_neg q]
        have : F x % p = 0 := Classical.byContradiction q
        rw [this]
        rfl
    · have : cf (if F y % p ≠ 0 then [(y, F y % p)] else []) x = 0 := by
        refine cf_none _ _ fun t ht w => ?_
        split at ht
        · have : t = (y, F y % p) := by simpa using ht
          rw [this] at w
          exact z w.symm
        · cases ht
      rw [this]
      by_cases q : x ∈ r
      · rw [if_pos q, if_pos (List.mem_cons_of_mem _ q)]
        omega
      · rw [if_neg q, if_neg (fun w => (List.mem_cons.mp w).elim z q)]
        rfl
theorem le_nd_lt : ∀ {ys : List Int}, ys.Pairwise (· ≤ ·) → ys.Nodup → ys.Pairwise (· < ·)
  | [], _, _ => .nil
  | y :: r, h, n => by
    have a := List.pairwise_cons.mp h
    have b := List.nodup_cons.mp n
    refine List.pairwise_cons.mpr ⟨fun z hz => ?_, le_nd_lt a.2 b.2⟩
    have := a.1 z hz
    have : y ≠ z := fun q => b.1 (q ▸ hz)
    omega
theorem kept_nf {p : Int} {F : Int → Int} {ys : List Int} (hp : 0 < p) (h : ys.Pairwise (· ≤ ·)) (n : ys.Nodup) (z : ∀ e, e ∉ ys → F e % p = 0) : Nf p (kept p F ys) F := by
  refine ⟨?_, fun t ht => ?_, fun e => ?_⟩
  · unfold kept
    rw [List.pairwise_map]
    exact (le_nd_lt h n).sublist List.filter_sublist
  · unfold kept at ht
    obtain ⟨e, he, rfl⟩ := List.mem_map.mp ht
    have q := of_decide_eq_true (List.mem_filter.mp he).2
    have h1 := Int.emod_nonneg (F e) (show p ≠ 0 by omega)
    have h2 := Int.emod_lt_of_pos (F e) hp
    exact ⟨by show 0 < F e % p; omega, h2⟩
  · rw [kept_cf p F ys e n]
    by_cases q : e ∈ ys
    · rw [if_pos q]
    · rw [if_neg q, z e q]
theorem kept_len (p : Int) (F : Int → Int) (ys : List Int) : (kept p F ys).length ≤ ys.length := by
  unfold kept
  rw [List.length_map]
  exact List.length_filter_le _ _
/-! the sums that the functions make -/
theorem cf_scale (k : Int) : ∀ (f : Pol) (e : Int), cf (f.map fun t => (t.1, t.2 * k)) e = cf f e * k
  | [], e => by simp [cf]
  | t :: r, e => by
    rw [List.map_cons, cf_cons, cf_cons, cf_scale k r e, Int.add_mul]
    show (if t.1 = e then t.2 * k else 0) + _ = _
    by_cases h : t.1 = e
    · rw [if_pos h, if_pos h]
    · rw [if_neg h, if_neg h, Int.zero_mul]
def moved (n : Int) (f : Pol) : Pol := f.map fun t => (t.1 + n, t.2)
theorem cf_moved (n : Int) : ∀ (f : Pol) (e : Int), cf (moved n f) e = cf f (e - n)
  | [], e => rfl
  | t :: r, e => by
    show (if t.1 + n = e then t.2 else 0) + cf (moved n r) e = (if t.1 = e - n then t.2 else 0) + cf r (e - n)
    rw [cf_moved n r e]
    by_cases h : t.1 + n = e
    · rw [if_pos h, if_pos (by omega)]
    · rw [if_neg h, if_neg (by omega)]
theorem Nf.moved {p : Int} {g : Pol} {F : Int → Int} (a : Nf p g F) (n : Int) : Nf p (moved n g) (fun e => F (e - n)) := by
  refine ⟨?_, fun t ht => ?_, fun e => by rw [cf_moved, a.cof]⟩
  · unfold DR.moved
    rw [List.pairwise_map]
    exact a.asc.imp fun q => by omega
  · obtain ⟨u, hu, rfl⟩ := List.mem_map.mp (show t ∈ g.map fun t => (t.1 + n, t.2) from ht)
    exact a.rng u hu
/-- 1 at 0, s, .., (n - 1) * s -/
def rounds (n : Nat) (s : Int) : Pol := (List.range n).map fun (m : Nat) => ((m : Int) * s, (1 : Int))
/-- a term times a polynomial; all products of two terms -/
def times (t : Int × Int) (g : Pol) : Pol := g.map fun u => (t.1 + u.1, t.2 * u.2)
def prods (f g : Pol) : Pol := f.flatMap fun t => times t g
end DR
/-! Products of polynomials: a ring without divisors of zero, modulo a prime. -/
namespace DR
/-- what the products of two polynomials are worth at e -/
def conv : Pol → (Int → Int) → Int → Int
  | [], _, _ => 0
  | t :: r, G, e => t.2 * G (e - t.1) + conv r G e
theorem cf_times (t : Int × Int) : ∀ (g : Pol) (e : Int), cf (times t g) e = t.2 * cf g (e - t.1)
  | [], e => by simp [times, cf]
  | u :: r, e => by
    show (if t.1 + u.1 = e then t.2 * u.2 else 0) + cf (times t r) e = t.2 * ((if u.1 = e - t.1 then u.2 else 0) + cf r (e - t.1))
    rw [cf_times t r e, Int.mul_add]
    by_cases h : t.1 + u.1 = e
    · rw [if_pos h, if_pos (by omega)]
    · rw [if_neg h, if_neg (by omega), Int.mul_zero]
theorem cf_prods : ∀ (f g : Pol) (e : Int), cf (prods f g) e = conv f (cf g) e
  | [], g, e => rfl
  | t :: r, g, e => by
    show cf (times t g ++ prods r g) e = _
    rw [cf_append, cf_times, cf_prods r g e]
    rfl
theorem conv_add (G G' : Int → Int) : ∀ (f : Pol) (e : Int), conv f (fun x => G x + G' x) e = conv f G e + conv f G' e
  | [], e => rfl
  | t :: r, e => by
    show t.2 * (G (e - t.1) + G' (e - t.1)) + conv r _ e = (t.2 * G (e - t.1) + conv r G e) + (t.2 * G' (e - t.1) + conv r G' e)
    rw [conv_add G G' r e, Int.mul_add]
    omega
theorem conv_congr {G G' : Int → Int} (h : ∀ x, G x = G' x) : ∀ (f : Pol) (e : Int), conv f G e = conv f G' e
  | [], e => rfl
  | t :: r, e => by
    show t.2 * G (e - t.1) + conv r G e = t.2 * G' (e - t.1) + conv r G' e
    rw [h, conv_congr h r e]
theorem conv_mod {p : Int} {G G' : Int → Int} (h : ∀ x, G x % p = G' x % p) : ∀ (f : Pol) (e : Int), conv f G e % p = conv f G' e % p
  | [], e => rfl
  | t :: r, e => by
    show (t.2 * G (e - t.1) + conv r G e) % p = (t.2 * G' (e - t.1) + conv r G' e) % p
    rw [Int.add_emod, Int.mul_emod, h, conv_mod h r e, ← Int.mul_emod, ← Int.add_emod]
theorem conv_smul (k : Int) (G : Int → Int) : ∀ (f : Pol) (e : Int), conv f (fun x => k * G x) e = k * conv f G e
  | [], e => by show (0 : Int) = k * 0; rw [Int.mul_zero]
  | t :: r, e => by
    show t.2 * (k * G (e - t.1)) + conv r _ e = k * (t.2 * G (e - t.1) + conv r G e)
    rw [conv_smul k G r e, Int.mul_add, Int.mul_left_comm]
/-- a single term added on the right -/
theorem conv_snd (u : Int × Int) (G : Int → Int) (f : Pol) (e : Int) : conv f (fun x => (if u.1 = x then u.2 else 0) + G x) e = u.2 * cf f (e - u.1) + conv f G e := by
  rw [conv_add]
  congr 1
  induction f with
  | nil => show (0 : Int) = u.2 * 0; rw [Int.mul_zero]
  | cons t r ih =>
    show t.2 * (if u.1 = e - t.1 then u.2 else 0) + conv r _ e = u.2 * ((if t.1 = e - u.1 then t.2 else 0) + cf r (e - u.1))
    rw [ih, Int.mul_add]
    by_cases h : u.1 = e - t.1
    · rw [if_pos h, if_pos (by omega), Int.mul_comm]
    · rw [if_neg h, if_neg (by omega), Int.mul_zero, Int.mul_zero]
theorem conv_zero : ∀ (f : Pol) (e : Int), conv f (fun _ => 0) e = 0
  | [], e => rfl
  | t :: r, e => by
    show t.2 * 0 + conv r _ e = 0
    rw [conv_zero r e, Int.mul_zero]
    rfl
/-- both ways about -/
theorem conv_comm : ∀ (g f : Pol) (e : Int), conv f (cf g) e = conv g (cf f) e
  | [], f, e => (conv_congr (G' := fun _ => 0) (fun _ => rfl) f e).trans (conv_zero f e)
  | u :: r, f, e => by
    show conv f (fun x => (if u.1 = x then u.2 else 0) + cf r x) e = u.2 * cf f (e - u.1) + conv r (cf f) e
    rw [conv_snd, conv_comm r f e]
/-- f counts by its worth alone, modulo p -/
theorem conv_fst {p : Int} {f f' : Pol} (h : ∀ x, cf f x % p = cf f' x % p) (g : Pol) (e : Int) : conv f (cf g) e % p = conv f' (cf g) e % p := by
  rw [conv_comm g f, conv_comm g f', conv_mod h g e]
theorem conv_append : ∀ (f f' : Pol) (G : Int → Int) (e : Int), conv (f ++ f') G e = conv f G e + conv f' G e
  | [], f', G, e => by show conv f' G e = 0 + conv f' G e; rw [Int.zero_add]
  | t :: r, f', G, e => by
    show t.2 * G (e - t.1) + conv (r ++ f') G e = (t.2 * G (e - t.1) + conv r G e) + conv f' G e
    rw [conv_append r f' G e]
    omega
theorem conv_times (t : Int × Int) (G : Int → Int) : ∀ (g : Pol) (e : Int), conv (times t g) G e = t.2 * conv g G (e - t.1)
  | [], e => by show (0 : Int) = t.2 * 0; rw [Int.mul_zero]
  | u :: r, e => by
    show (t.2 * u.2) * G (e - (t.1 + u.1)) + conv (times t r) G e = t.2 * (u.2 * G (e - t.1 - u.1) + conv r G (e - t.1))
    rw [conv_times t G r e, Int.mul_add, Int.mul_assoc, show e - (t.1 + u.1) = e - t.1 - u.1 by omega]
theorem conv_assoc : ∀ (f g : Pol) (G : Int → Int) (e : Int), conv (prods f g) G e = conv f (conv g G) e
  | [], g, G, e => rfl
  | t :: r, g, G, e => by
    show conv (times t g ++ prods r g) G e = t.2 * conv g G (e - t.1) + conv r (conv g G) e
    rw [conv_append, conv_times, conv_assoc r g G e]
theorem conv_moved (n : Int) (G : Int → Int) : ∀ (f : Pol) (e : Int), conv (moved n f) G e = conv f G (e - n)
  | [], e => rfl
  | t :: r, e => by
    show t.2 * G (e - (t.1 + n)) + conv (moved n r) G e = t.2 * G (e - n - t.1) + conv r G (e - n)
    rw [conv_moved n G r e, show e - (t.1 + n) = e - n - t.1 by omega]
theorem mul_emod_l (a b p : Int) : a % p * b % p = a * b % p := by rw [Int.mul_emod, Int.emod_emod, ← Int.mul_emod]
/-- the least exponents' term of a product -/
theorem conv_least {t u : Int × Int} {r s : Pol} (h : (t :: r).Pairwise fun x y => x.1 < y.1) (h' : (u :: s).Pairwise fun x y => x.1 < y.1) : conv (t :: r) (cf (u :: s)) (t.1 + u.1) = t.2 * u.2 := by
  show t.2 * cf (u :: s) (t.1 + u.1 - t.1) + conv r (cf (u :: s)) (t.1 + u.1) = t.2 * u.2
  rw [show t.1 + u.1 - t.1 = u.1 by omega, cf_head h']
  have : ∀ r : Pol, (∀ x ∈ r, t.1 < x.1) → conv r (cf (u :: s)) (t.1 + u.1) = 0 := by
    intro r
    induction r with
    | nil => intro _; rfl
    | cons x r ih =>
      intro hx
      show x.2 * cf (u :: s) (t.1 + u.1 - x.1) + conv r _ _ = 0
      rw [ih fun y hy => hx y (List.mem_cons_of_mem _ hy), cf_none (u :: s) _ fun y hy e => ?_, Int.mul_zero]
      · rfl
      · have l1 := asc_le h' hy
        have l2 := hx x List.mem_cons_self
        omega
  rw [this r (List.pairwise_cons.mp h).1]
  omega
/-- geometric sums close up -/
theorem rounds_succ (n : Nat) (s : Int) : rounds (n + 1) s = rounds n s ++ [((n : Int) * s, 1)] := by
  unfold rounds
  rw [List.range_succ, List.map_append]
  rfl
end DR
/-! Powers: the rounds of an effect added up, forwards and backwards. -/
namespace DR
def upF (F : Int → Int) (m : Int) : Nat → Int → Int
  | 0, _ => 0
  | n + 1, e => upF F m n e + F (e - (n : Int) * m)
def dnF (F : Int → Int) (m : Int) : Nat → Int → Int
  | 0, _ => 0
  | n + 1, e => dnF F m n e + F (e + ((n : Int) + 1) * m)
/-- what c rounds of an effect with the worth F and the shift m turn -/
def pwF (F : Int → Int) (m : Int) : Int → Int → Int
  | .ofNat n, e => upF F m n e
  | .negSucc n, e => - dnF F m (n + 1) e
theorem pw_zero (F : Int → Int) (m e : Int) : pwF F m 0 e = 0 := rfl
theorem pw_succ (F : Int → Int) (m : Int) : ∀ (c e : Int), pwF F m (c + 1) e = pwF F m c e + F (e - c * m)
  | .ofNat n, e => rfl
  | .negSucc 0, e => by
    show pwF F m (Int.negSucc 0 + 1) e = - (0 + F (e + ((0 : Int) + 1) * m)) + F (e - Int.negSucc 0 * m)
    rw [show Int.negSucc 0 + 1 = 0 from rfl, pw_zero, show Int.negSucc 0 = (-1 : Int) from rfl, show e - -1 * m = e + (0 + 1) * m by omega]
    omega
  | .negSucc (n + 1), e => by
    rw [show Int.negSucc (n + 1) + 1 = Int.negSucc n from rfl]
    show - dnF F m (n + 1) e = - (dnF F m (n + 1) e + F (e + (((n + 1 : Nat) : Int) + 1) * m)) + F (e - Int.negSucc (n + 1) * m)
    have h : Int.negSucc (n + 1) = -(((n + 1 : Nat) : Int) + 1) := by omega
    rw [h, Int.neg_mul, Int.sub_neg]
    omega
theorem int_ind {P : Int → Prop} (h0 : P 0) (hs : ∀ c, P c ↔ P (c + 1)) (c : Int) : P c := by
  have up : ∀ n : Nat, P (n : Int) := fun n => by
    induction n with
    | zero => exact h0
    | succ n ih =>
      have := (hs (n : Int)).mp ih
      exact this
  have dn : ∀ n : Nat, P (-(n : Int)) := fun n => by
    induction n with
    | zero => exact h0
    | succ n ih =>
      refine (hs _).mpr ?_
      rw [show -((n + 1 : Nat) : Int) + 1 = -(n : Int) by omega]
      exact ih
  by_cases h : 0 ≤ c
  · have := up c.toNat
    rw [Int.toNat_of_nonneg h] at this
    exact this
  · have := dn (-c).toNat
    rw [Int.toNat_of_nonneg (by omega), Int.neg_neg] at this
    exact this
theorem pw_add (F : Int → Int) (m a : Int) : ∀ (b e : Int), pwF F m (a + b) e = pwF F m a e + pwF F m b (e - a * m) := by
  intro b
  refine int_ind (P := fun b => ∀ e, pwF F m (a + b) e = pwF F m a e + pwF F m b (e - a * m)) (fun e => ?_) (fun c => ?_) b
  · rw [Int.add_zero, pw_zero, Int.add_zero]
  · have key : ∀ e, F (e - (a + c) * m) = F (e - a * m - c * m) := fun e => by
      congr 1
      rw [Int.add_mul]
      omega
    constructor
    · intro h e
      rw [← Int.add_assoc, pw_succ, pw_succ, h e, key]
      omega
    · intro h e
      have h' := h e
      rw [← Int.add_assoc, pw_succ, pw_succ, key] at h'
      omega
theorem pw_one (F : Int → Int) (m e : Int) : pwF F m 1 e = F e := by
  show 0 + F (e - ((0 : Nat) : Int) * m) = F e
  rw [Int.zero_add, show e - ((0 : Nat) : Int) * m = e by omega]
theorem conv_rounds (f : Pol) (m : Int) : ∀ (n : Nat) (e : Int), conv f (cf (rounds n m)) e = upF (cf f) m n e
  | 0, e => (conv_congr (G' := fun _ => 0) (fun _ => rfl) f e).trans (conv_zero f e)
  | n + 1, e => by
    have h : ∀ x, cf (rounds (n + 1) m) x = (if ((n : Int) * m, (1 : Int)).1 = x then ((n : Int) * m, (1 : Int)).2 else 0) + cf (rounds n m) x := fun x => by
      rw [rounds_succ, cf_append, cf_cons, cf_nil]
      omega
    rw [conv_congr h, conv_snd, conv_rounds f m n e]
    show 1 * cf f (e - (n : Int) * m) + upF (cf f) m n e = upF (cf f) m n e + cf f (e - (n : Int) * m)
    omega
theorem pw_rounds (f : Pol) (m : Int) {c : Int} (h : 0 ≤ c) (e : Int) : conv f (cf (rounds c.toNat m)) e = pwF (cf f) m c e := by
  obtain ⟨n, rfl⟩ : ∃ n : Nat, c = (n : Int) := ⟨c.toNat, by omega⟩
  rw [Int.toNat_natCast, conv_rounds]
  rfl
end DR
/-! What the laws of one document share: a few rules more of the hand layer, and polynomials in the heap. -/
namespace DR
open PySem PySem.Spec PyProof.Rows L2
section
variable {P : Program} {w : World} {A : Around} {E : Value → Shared → Prop}
/-- the second half of `sorted`: the members stand gathered and are ints; they go into a new list, and that is put in order -/
theorem order_ints {now : Shared} {items : List Value} {nums : List Int} {after : PySem.Fin → Shared → Prop} (whole : IntsAre items nums) (room : items.length ≤ sizeLine)
    (next : ∀ (g : Heap) (arr : Array Value) (stamp : Nat) (ys : List Int), (∀ b u, now.heap.get? b = some u → g.get? b = some u) → g.get? now.heap.objs.size = some (seqObj "list" arr stamp) → IntsAre arr.toList ys →
      ys.Perm nums → ys.Pairwise (· ≤ ·) → after (.done (.ret (.ref now.heap.objs.size))) { now with heap := g }) :
    wpAny (model P w) A (do let l ← newList items; let _ ← holding [l] (call (.builtin "list.sort") [l] []); ret l) after E now := by
  have laid : (now.heap.push (seqObj "list" items.toArray 0)).get? now.heap.objs.size = some (seqObj "list" items.toArray 0) := Heap.get?_push_size _ rfl
  have done : ∀ out : List Value, SrtO.Srtd SrtO.ltIv out → SrtO.Stb SrtO.ltIv out items →
      after (.done (.ret (.ref now.heap.objs.size))) { now with heap := sortedHeap (now.heap.push (seqObj "list" items.toArray 0)) now.heap.objs.size items out.toArray } := fun out asc same => by
    obtain ⟨numb, perm, up⟩ := SrtO.ints_out whole asc same
    obtain ⟨stamp, there⟩ := sortedHeap_at (vs := items) (out := out.toArray) laid
    refine next _ out.toArray stamp (out.map SrtO.iv) (fun b u old => ?_) there (by simpa using numb) perm up
    have below : b < now.heap.objs.size := Heap.lt_size old
    have wider : b < (now.heap.push (seqObj "list" items.toArray 0)).objs.size := by
      rw [size_push']
      exact Nat.lt_succ_of_lt below
    exact (sortedHeap_old (Nat.ne_of_lt below) wider).trans (Heap.get?_push_of_some _ old)
  have sorts := SrtO.list_sort_ord (prog := P) (w := w) (A := A.in1) (E := E) (s := { now with heap := now.heap.push (seqObj "list" items.toArray 0) }) (R := fun r s' => r = .done (.ret .none) ∧ ∃ out : List Value, SrtO.Srtd SrtO.ltIv out ∧ SrtO.Stb SrtO.ltIv out items ∧ s' = { now with heap := sortedHeap (now.heap.push (seqObj "list" items.toArray 0)) now.heap.objs.size items out.toArray })
    SrtO.swo_int laid room (fun two => SrtO.ints_sortable whole two) fun out asc same => ⟨rfl, out, asc, same, rfl⟩
  refine wpAny_bind (wpAny_newList (wpAny_bind (wpAny_holding ?_)) room)
  refine wpAny_call_entry slot_list_sort ⟨_, laid, rfl⟩ entry_list_sort ?_ (args_list_sort _)
  refine wpAny_mono sorts (fun r s' told => ?_) fun e s' told => told
  obtain ⟨rfl, out, asc, same, rfl⟩ := told
  exact ⟨_, rfl, wpAny_pure (done out asc same)⟩
end
section
variable {X : Cx}
/-- sorted(d), the keys ints, however many -/
theorem call_sortedDA (calm : X.calm = true) : CallR X (.builtin "sorted") (fun given G K => ∃ (d : Addr) (kvs : List (Key × V)) (ks : List Int), given = [.ref d] ∧ Rd G d (.dK kvs) ∧ kvs.map (·.1) = ks.map Sum.inl ∧
    ∀ (ys : List Int) (p : Addr), ys.Perm ks → (ys.Pairwise fun u v => u ≤ v) → G p = none → K (.ref p) (upd G p (.lst (ys.map V.int)))) := by
  intro pins now σ G given us K I r told
  obtain ⟨d, kvs, ks, rfl, hd, hks, told⟩ := told
  rw [Vals.ref1 r]
  obtain ⟨few, loose, pairs, rel, dd⟩ := dk_rd I.hok hd
  obtain ⟨ep, at_d⟩ := dd.dictAt
  have keys : pairs.map (·.1) = ks.map Sum.inl := hks ▸ rel.keys.symm
  have len : pairs.length = ks.length := by simpa using congrArg List.length keys
  have lkv : kvs.length = ks.length := by simpa using congrArg List.length hks
  have fits : pairs.length ≤ sizeLine := by
    rw [len, ← lkv]
    exact few
  refine Calls.call_function_entry kind_sorted plain_sorted entry_sorted (args_sorted1 _) ?_
  unfold Builtin.«sorted»
  refine wpAny_bind (m := checkCount "sorted" 1 1 _) (wpAny_pure (wpAny_bind (PySem.W.kdu_collect (A := X.A.in1) (PySem.W.kdl_dict (knd := mixKind X.prog X.w) (kvs := pairs) (ep := ep) loose) (I.ok.hd calm) at_d fits fun g1 toks acc kept each => ?_)))
  have lacc : acc.toList.length = ks.length := by rw [Array.length_toList, each.1, len]
  have whole : IntsAre acc.toList ks := ints_each lacc fun j v e => by
    obtain ⟨k, _, here, like⟩ := each.2 j v (by simpa using e)
    have key : (ks.map Sum.inl)[j]? = some k := by rw [← keys, List.getElem?_map, here]; rfl
    rw [List.getElem?_map] at key
    obtain ⟨y, hy, rfl⟩ := Option.map_eq_some_iff.mp key
    rcases keyIs_shape (show keyIs (Sum.inl y) v = true from like) with ⟨i, t, ek, ev⟩ | ⟨_, _, ek, _⟩
    · cases ek
      exact ⟨y, t, hy, ev⟩
    · cases ek
  have I1 : Inv X pins σ G { now with heap := g1, toks := toks } := I.kept kept
  refine order_ints whole (by rw [lacc, ← lkv]; exact few) fun g arr stamp ys old there numb perm up => ?_
  have fit : (ys.map V.int).length ≤ sizeLine := by
    rw [List.length_map, perm.length_eq, ← lkv]
    exact few
  exact ⟨_, rfl, .ref g1.objs.size, _, I1.laid (t' := toks) (o := .lst (ys.map V.int)) old (Nat.le_refl _) ⟨fit, arr.toList, stamp, vals_of_ints numb, there⟩, rfl, told ys _ perm up (I1.hok.fresh (Nat.le_refl _))⟩
end
end DR
namespace DR
open PySem PySem.Spec PyProof.Rows L2
/-! ### the law's own def is called once, by the caller alone: there no repr runs (guards), which FnOk can't say -/
/-- a promise kept where the law is called -/
def Kept (P : Program) (w : World) (K : PySem.W.Frag) (mg : Str → Option Value) (base : Heap) (f : Addr) (fd : FuncData) (ps : List Str) (sp : Sp) : Prop :=
  ∀ (s : Shared) (H : Hp) (args : Args) (us : List Value) (vs : List V) (Q : VK) (E : XK), Env0 P w K mg base callerA [] s H → BindsTo s fd args (ps.zip us) →
    Vals vs us → sp vs H Q E → codeAny (model P w) callerA (.call (.ref f) args) (CR CX0 [] P w H s Q E) s
/-- what the judge asks of the law's call -/
abbrev Passed (before : Shared) : Except Value Flow → Shared → Prop := fun r s' => r = .ok (.ret (.bool true)) ∧ OldK before.heap s'.heap ∧ s'.os = before.os ∧ AllBare s'.gens
/-- the names of the module and of the builtins, as they stand before the call -/
structure Stand (K : PySem.W.Frag) (mg mb : Str → Option Value) (before : Shared) : Prop where
  kin : K.In before.heap
  mod : before.heap.Ns mainGlobals mg
  std : before.heap.Ns builtinsNs mb
  boot : ∀ x : Str, x ≠ "__name__" → mb x = bootBuiltins x
  free : before.heap.NoLimit
  none : before.gens = #[]
end DR
namespace DR
open PySem PySem.Spec PyProof.Rows L2
/-! ### heaps -/
theorem same_new {H : Hp} {p : Addr} {o : HO} (h : H p = none) : Same H (upd H p o) := fun b u e => by
  rw [upd_ne (ne_of_none e h)]
  exact e
/-- what H does not know may change -/
theorem same_mut {H H' : Hp} {p : Addr} {o : HO} (s : Same H H') (h : H p = none) : Same H (upd H' p o) := fun b u e => by
  rw [upd_ne (ne_of_none e h)]
  exact s b u e
theorem same_t {K : PySem.W.Frag} {H H' : Hp} {a : Addr} {xs : List V} (e : Same H H') (h : SqT K H a xs) : SqT K H' a xs := by
  match h with
  | .inl (.inl z) => exact .inl (.inl (e _ _ z))
  | .inl (.inr ⟨u, z⟩) => exact .inl (.inr ⟨u, e _ _ z⟩)
  | .inr z => exact .inr z
theorem same_l {K : PySem.W.Frag} {H H' : Hp} {a : Addr} {xs : List V} (e : Same H H') (h : SqL K H a xs) : SqL K H' a xs := e.seq h
/-- all but what stands at p stays -/
def Kp (p : Addr) (H H' : Hp) : Prop := ∀ b o, b ≠ p → H b = some o → H' b = some o
theorem Kp.refl (p : Addr) (H : Hp) : Kp p H H := fun _ _ _ e => e
theorem Kp.trans {p : Addr} {H H1 H2 : Hp} (a : Kp p H H1) (b : Kp p H1 H2) : Kp p H H2 := fun c o n e => b c o n (a c o n e)
theorem Same.kp {p : Addr} {H H' : Hp} (s : Same H H') : Kp p H H' := fun b o _ e => s b o e
theorem Kp.upd {p : Addr} {H H' : Hp} {o : HO} (k : Kp p H H') : Kp p H (upd H' p o) := fun b u n e => by
  rw [upd_ne n]
  exact k b u n e
/-- tuples (and what is locked) stay: so every tuple of tuples and numbers does -/
structure Tp (H H' : Hp) : Prop where
  tup : ∀ b xs, H b = some (.tup xs) → H' b = some (.tup xs)
  frz : ∀ b o u, H b = some (.frz o u) → H' b = some (.frz o u)
theorem Same.tp {H H' : Hp} (s : Same H H') : Tp H H' := ⟨fun b xs e => s b _ e, fun b o u e => s b _ e⟩
theorem Tp.refl (H : Hp) : Tp H H := ⟨fun _ _ e => e, fun _ _ _ e => e⟩
theorem Tp.trans {H H1 H2 : Hp} (a : Tp H H1) (b : Tp H1 H2) : Tp H H2 := ⟨fun c xs e => b.tup c xs (a.tup c xs e), fun c o u e => b.frz c o u (a.frz c o u e)⟩
theorem Kp.tp {p : Addr} {H H' : Hp} {kvs : List (Key × V)} (k : Kp p H H') (h : H p = some (.dK kvs)) : Tp H H' :=
  ⟨fun b xs e => k b _ (ne_of e h (by intro z; cases z)) e, fun b o u e => k b _ (ne_of e h (by intro z; cases z)) e⟩
theorem tp_t {K : PySem.W.Frag} {H H' : Hp} {a : Addr} {xs : List V} (e : Tp H H') (h : SqT K H a xs) : SqT K H' a xs := by
  rcases h with (h | ⟨o, h⟩) | h
  · exact .inl (.inl (e.tup _ _ h))
  · exact .inl (.inr ⟨o, e.frz _ _ _ h⟩)
  · exact .inr h
/-- a list, a dict changes or a new thing comes -/
theorem tp_lst {H : Hp} {p : Addr} {xs : List V} {o : HO} (h : H p = some (.lst xs)) : Tp H (upd H p o) :=
  ⟨fun b ys e => by rw [upd_ne (ne_of e h (by intro z; cases z))]; exact e, fun b u v e => by rw [upd_ne (ne_of e h (by intro z; cases z))]; exact e⟩
theorem tp_dK {H : Hp} {p : Addr} {xs : List (Key × V)} {o : HO} (h : H p = some (.dK xs)) : Tp H (upd H p o) :=
  ⟨fun b ys e => by rw [upd_ne (ne_of e h (by intro z; cases z))]; exact e, fun b u v e => by rw [upd_ne (ne_of e h (by intro z; cases z))]; exact e⟩
theorem tp_new {H : Hp} {p : Addr} {o : HO} (h : H p = none) : Tp H (upd H p o) := Same.tp (same_new h)
/-! ### polynomials: tuples (or lists) of pairs of ints -/
def IsPr (K : PySem.W.Frag) (H : Hp) (x : V) (t : Int × Int) : Prop := ∃ a, x = V.ref a ∧ SqT K H a [.int t.1, .int t.2]
abbrev Prs (K : PySem.W.Frag) (H : Hp) : List V → Pol → Prop := Paired (IsPr K H)
def TPol (K : PySem.W.Frag) (H : Hp) (v : V) (f : Pol) : Prop := ∃ a xs, v = .ref a ∧ SqT K H a xs ∧ Prs K H xs f
def LPol (K : PySem.W.Frag) (H : Hp) (v : V) (f : Pol) : Prop := ∃ a xs, v = .ref a ∧ SqL K H a xs ∧ Prs K H xs f
section
variable {K : PySem.W.Frag} {H H' : Hp} {v x : V} {xs ys : List V} {f g : Pol} {t : Int × Int}
theorem IsPr.tp (e : Tp H H') (h : IsPr K H x t) : IsPr K H' x t := h.elim fun a z => ⟨a, z.1, tp_t e z.2⟩
theorem Prs.tp (e : Tp H H') : ∀ {xs : List V} {f : Pol}, Prs K H xs f → Prs K H' xs f
  | _, _, .nil => .nil
  | _, _, .cons r q => .cons (r.tp e) (Prs.tp e q)
theorem TPol.tp (e : Tp H H') (h : TPol K H v f) : TPol K H' v f := by
  obtain ⟨a, xs, rfl, hs, hp⟩ := h
  exact ⟨a, xs, rfl, tp_t e hs, Prs.tp e hp⟩
theorem LPol.same (e : Same H H') (h : LPol K H v f) : LPol K H' v f := by
  obtain ⟨a, xs, rfl, hs, hp⟩ := h
  exact ⟨a, xs, rfl, e.seq hs, Prs.tp (Same.tp e) hp⟩
theorem Prs.snoc : ∀ {xs : List V} {f : Pol}, Prs K H xs f → IsPr K H x t → Prs K H (xs ++ [x]) (f ++ [t])
  | _, _, .nil, h => .cons h .nil
  | _, _, .cons r q, h => .cons r (Prs.snoc q h)
theorem Prs.app : ∀ {xs : List V} {f : Pol}, Prs K H xs f → Prs K H ys g → Prs K H (xs ++ ys) (f ++ g)
  | _, _, .nil, h => h
  | _, _, .cons r q, h => .cons r (Prs.app q h)
theorem Prs.len (h : Prs K H xs f) : xs.length = f.length := Paired.length h
theorem Prs.get : ∀ {xs : List V} {f : Pol} {i : Nat} {x : V}, Prs K H xs f → xs[i]? = some x → ∃ t, f[i]? = some t ∧ IsPr K H x t
  | _, _, _, _, .nil, e => by simp at e
  | _, _, 0, _, .cons r _, e => by
    simp at e
    subst e
    exact ⟨_, rfl, r⟩
  | _, _, i + 1, x, .cons _ q, e => by
    obtain ⟨t, h1, h2⟩ := Prs.get (i := i) (x := x) q (by simpa using e)
    exact ⟨t, by simpa using h1, h2⟩
theorem isPr_new {p : Addr} {t : Int × Int} : IsPr K (upd H p (.tup [.int t.1, .int t.2])) (.ref p) t := ⟨p, rfl, SqT.of upd_same⟩
/-- as data -/
def pr (t : Int × Int) : PyData := .tuple [.int t.1, .int t.2]
def pd (f : Pol) : PyData := .tuple (f.map pr)
theorem IsPr.dp (h : IsPr K H x t) : Dp K H x (pr t) := by
  obtain ⟨a, rfl, hs⟩ := h
  exact .tup hs (.cons (.int _) (.cons (.int _) .nil))
theorem Prs.dp : ∀ {xs : List V} {f : Pol}, Prs K H xs f → DpAll K H xs (f.map pr)
  | _, _, .nil => .nil
  | _, _, .cons r q => .cons r.dp (Prs.dp q)
theorem TPol.dp (h : TPol K H v f) : Dp K H v (pd f) := by
  obtain ⟨a, xs, rfl, hs, hp⟩ := h
  exact .tup hs hp.dp
end
/-! ### how they are shown -/
/-- small enough to be shown -/
structure Sm (f : Pol) : Prop where
  len : f.length ≤ 50000
  abs : ∀ t ∈ f, t.1.natAbs < 10 ^ 100 ∧ t.2.natAbs < 10 ^ 100
/-! ### dicts of ints -/
def kvOf (m : Pol) : List (Key × V) := m.map fun t => (Sum.inl t.1, V.int t.2)
theorem kv_keys (m : Pol) : (kvOf m).map (·.1) = (m.map (·.1)).map Sum.inl := by
  unfold kvOf
  rw [List.map_map, List.map_map]
  rfl
theorem kv_val : ∀ (m : Pol) (e : Int), (m.map (·.1)).Nodup → valV (kvOf m) (Sum.inl e) = if e ∈ m.map (·.1) then some (.int (cf m e)) else none
  | [], e, _ => by simp [kvOf, valV_nil]
  | t :: r, e, h => by
    have n := List.nodup_cons.mp (show (t.1 :: r.map (·.1)).Nodup from h)
    show valV ((Sum.inl t.1, V.int t.2) :: kvOf r) (Sum.inl e) = _
    by_cases q : t.1 = e
    · rw [valV_pos (by rw [q])]
      rw [if_pos (by rw [← q]; exact List.mem_cons_self), cf_cons, if_pos q, cf_out (f := r) (e := e) (by rw [← q]; exact n.1)]
      show some (V.int t.2) = some (V.int (t.2 + 0))
      rw [Int.add_zero]
    · rw [valV_neg (fun z => q (Sum.inl.inj z)), kv_val r e n.2, cf_cons, if_neg q, Int.zero_add]
      have : e ∈ (t :: r).map (·.1) ↔ e ∈ r.map (·.1) := by
        rw [List.map_cons, List.mem_cons]
        exact ⟨fun z => z.elim (fun y => absurd y.symm q) id, .inr⟩
      by_cases z : e ∈ r.map (·.1)
      · rw [if_pos z, if_pos (this.mpr z)]
      · rw [if_neg z, if_neg (fun y => z (this.mp y))]
theorem kv_getD (m : Pol) (e : Int) (h : (m.map (·.1)).Nodup) : (valV (kvOf m) (Sum.inl e)).getD (.int 0) = .int (cf m e) := by
  rw [kv_val m e h]
  by_cases z : e ∈ m.map (·.1)
  · rw [if_pos z]
    rfl
  · rw [if_neg z, cf_out z]
    rfl
theorem kv_has {m : Pol} {e : Int} (h : (m.map (·.1)).Nodup) (z : e ∈ m.map (·.1)) : valV (kvOf m) (Sum.inl e) = some (.int (cf m e)) := by
  rw [kv_val m e h, if_pos z]
theorem put_new : ∀ {m : Pol} {e v : Int}, e ∉ m.map (·.1) → put m e v = m ++ [(e, v)]
  | [], _, _, _ => rfl
  | t :: r, e, v, h => by
    have h1 : t.1 ≠ e := fun z => h (by rw [← z]; exact List.mem_cons_self)
    unfold put
    rw [if_neg h1, put_new fun z => h (List.mem_cons_of_mem _ z)]
    rfl
theorem put_old : ∀ {m : Pol} {e v : Int}, (m.map (·.1)).Nodup → e ∈ m.map (·.1) → put m e v = m.map fun t => if t.1 = e then (t.1, v) else t
  | [], _, _, _, h => absurd h List.not_mem_nil
  | t :: r, e, v, n, h => by
    have nn := List.nodup_cons.mp (show (t.1 :: r.map (·.1)).Nodup from n)
    unfold put
    by_cases q : t.1 = e
    · rw [if_pos q, List.map_cons, if_pos q, q]
      congr 1
      have : ∀ u ∈ r, (if u.1 = e then (u.1, v) else u) = id u := fun u hu => by
        rw [if_neg]
        · rfl
        · intro z
          exact nn.1 (by rw [q, ← z]; exact List.mem_map_of_mem hu)
      rw [List.map_congr_left this, List.map_id]
    · rw [if_neg q, List.map_cons, if_neg q, put_old nn.2]
      rcases List.mem_cons.mp (show e ∈ t.1 :: r.map (·.1) from h) with z | z
      · exact absurd z.symm q
      · exact z
theorem kv_put {m : Pol} {e v : Int} (n : (m.map (·.1)).Nodup) : putK (kvOf m) (Sum.inl e : Key) (.int v) = kvOf (put m e v) := by
  by_cases z : e ∈ m.map (·.1)
  · rw [put_old n z]
    unfold putK
    rw [valV_any, kv_has n z, if_pos (by rfl)]
    unfold kvOf
    rw [List.map_map, List.map_map]
    refine List.map_congr_left fun t _ => ?_
    show (if (Sum.inl t.1 : Key) = Sum.inl e then ((Sum.inl t.1 : Key), V.int v) else (Sum.inl t.1, V.int t.2)) = (Sum.inl (if t.1 = e then (t.1, v) else t).1, V.int (if t.1 = e then (t.1, v) else t).2)
    by_cases q : t.1 = e
    · rw [if_pos q, if_pos (by rw [q])]
    · rw [if_neg q, if_neg (fun y => q (Sum.inl.inj y))]
  · rw [putK_new _ (by rw [kv_val m e n, if_neg z]), put_new z]
    unfold kvOf
    rw [List.map_append]
    rfl
theorem kv_len (m : Pol) : (kvOf m).length = m.length := by
  unfold kvOf
  rw [List.length_map]
theorem sl_of {n : Nat} (h : n ≤ 1000000) : n ≤ sizeLine := by
  rw [sizeLine_eq]
  omega
theorem sl_lt {n : Nat} (h : n ≤ 1000000) : n < sizeLine := by
  rw [sizeLine_eq]
  omega
/-! ### a list of pairs that a comprehension, or a loop, makes -/
structure Grow (K : PySem.W.Frag) (H0 : Hp) (D : Addr) (f : Pol) (H : Hp) : Prop where
  same : Same H0 H
  ex : ∃ xs, H D = some (.lst xs) ∧ Prs K H xs f
section
variable {K : PySem.W.Frag} {H0 H : Hp} {D q : Addr} {f : Pol}
theorem Grow.start (n : H0 D = none) : Grow K H0 D [] (upd H0 D (.lst [])) := ⟨same_new n, [], upd_same, .nil⟩
theorem Grow.step (n : H0 D = none) (g : Grow K H0 D f H) (hq : H q = none) (e c : Int) (hl : f.length < 1000000) :
    ∃ acc, upd H q (.tup [.int e, .int c]) D = some (.lst acc) ∧ acc.length < sizeLine ∧ Grow K H0 D (f ++ [(e, c)]) (upd (upd H q (.tup [.int e, .int c])) D (.lst (acc ++ [.ref q]))) := by
  obtain ⟨s, xs, hD, hP⟩ := g
  have nDq : D ≠ q := ne_of_none hD hq
  have h1 : upd H q (.tup [.int e, .int c]) D = some (.lst xs) := by
    rw [upd_ne nDq]
    exact hD
  have t1 : Tp H (upd H q (.tup [.int e, .int c])) := tp_new hq
  have t2 : Tp (upd H q (.tup [.int e, .int c])) (upd (upd H q (.tup [.int e, .int c])) D (.lst (xs ++ [.ref q]))) := tp_lst h1
  refine ⟨xs, h1, sl_lt (by rw [hP.len]; omega), same_mut (s.trans (same_new hq)) n, _, upd_same, Prs.snoc (Prs.tp (t1.trans t2) hP) (IsPr.tp t2 ?_)⟩
  exact isPr_new (t := (e, c))
end
theorem ints_get {ys : List Int} {i : Nat} {x : V} (h : (ys.map V.int)[i]? = some x) : ∃ e, ys[i]? = some e ∧ x = .int e := by
  rw [List.getElem?_map] at h
  cases q : ys[i]? with
  | none =>
    rw [q] at h
    cases h
  | some e =>
    rw [q] at h
    exact ⟨e, rfl, (Option.some.inj h).symm⟩
theorem take_snoc {α : Type} {ys : List α} {i : Nat} {e : α} (h : ys[i]? = some e) : ys.take (i + 1) = ys.take i ++ [e] := by
  rw [List.take_add_one, h]
  rfl
theorem dget_int {H : Hp} {d : Addr} {m : Pol} {e : Int} (h : H d = some (.dK (kvOf m))) (n : (m.map (·.1)).Nodup) (z : e ∈ m.map (·.1)) : DGet H d (.int e) (some (.int (cf m e))) := by
  have := DGet.k (k := (Sum.inl e : Key)) h
  rw [kv_has n z] at this
  exact this
theorem dget_any {H : Hp} {d : Addr} {m : Pol} (e : Int) (h : H d = some (.dK (kvOf m))) : DGet H d (.int e) (valV (kvOf m) (Sum.inl e)) := DGet.k (k := (Sum.inl e : Key)) h
theorem dput_int {H : Hp} {d : Addr} {m : Pol} (e v : Int) (h : H d = some (.dK (kvOf m))) (n : (m.map (·.1)).Nodup) (hl : m.length ≤ 1000000) : DPut H d (.int e) (.int v) (upd H d (.dK (kvOf (put m e v)))) := by
  have := DPut.k (k := (Sum.inl e : Key)) (v := .int v) h (by rw [kv_len]; exact sl_lt hl)
  rw [kv_put n] at this
  exact this
/-! ### a def of the text by its name, and its call -/
structure Cal (P : Program) (w : World) (K : PySem.W.Frag) (mg : Str → Option Value) (base : Heap) (k : Nat) (x : Str) (sp : Sp) : Prop where
  ex : ∃ (f : Addr) (fd : FuncData) (ps : List Str), FnOk P w K mg base CX0 k f fd ps sp ∧ mg x = some (.ref f) ∧ PySem.W.keepIn K (.ref f) = true ∧ Binds K fd ps []
theorem pe_c {X : Cx} {k j : Nat} {x : Str} {sp : Sp} {p pos : Pos} {e : Expr} {es : List Expr} {t : TA} (c : Cal X.prog X.w X.K X.mg X.base k x sp) (hr : Room j X.A) (hk : k ≤ j) (hg : Gl X x) (ha : PA X (e :: es) t)
    (h1 : (x == ("__debug__" : Str)) = false := by decide) (h2 : starEach (e :: es) X.env = (false, eval e X.env) :: starEach es X.env := by rfl) (h3 : (backTo pos (starEach es X.env)).any (·.1) = false := by rfl) :
    PE X (.Call (.Name x p) (e :: es) [] pos) (tCall sp [] E0 t) := by
  obtain ⟨f, fd, ps, F, hm, kp, b⟩ := c.ex
  exact pe_call F (hr.mono hk) hg hm kp b .nil pass0 ha h1 h2 h3
/-! ### comprehensions that make pairs -/
section
variable {K : PySem.W.Frag} {a : Addr} {xs : List V} {f : Pol} {σ : L2.St} {H : Hp} {vs : List Nat} {n i j : Nat} {te : TE} {Q : VK}
/-- [(.., ..) for x, y in a tuple of pairs] -/
theorem lcT (G : Int × Int → Int × Int) (hv : σ[n]? = some (some (.ref a))) (hs : SqT K H a xs) (hP : Prs K H xs f) (hl : f.length ≤ 1000000)
    (hw : ∀ x y, wipe (((wipe σ vs).set i (some x)).set j (some y)) vs = wipe σ vs)
    (he : ∀ t ∈ f, ∀ H2, Same H H2 → ∀ R : VK, (∀ q, H2 q = none → R (.ref q) (upd H2 q (.tup [.int (G t).1, .int (G t).2]))) → te (((wipe σ vs).set i (some (.int t.1))).set j (some (.int t.2))) H2 R)
    (k : ∀ D H2, H D = none → Grow K H D (f.map G) H2 → Q (.ref D) H2) : tLc (iTup K (tVar n)) (gTup K 2 (gCons (gName i) (gCons (gName j) gNil))) tYes te vs σ H Q := by
  refine ⟨_, hv, a, rfl, ⟨_, hs⟩, fun D nD => lc_tup (K := K) (a := a) (xs := xs) (fun m H2 => Grow K H D ((f.take m).map G) H2) (.start nD) (fun m H2 _ g => same_t g.same hs) ?_ ?_⟩
  · intro m x H2 hm g
    obtain ⟨t, ht, b, rfl, hb⟩ := hP.get hm
    refine ⟨b, _, rfl, same_t g.same hb, rfl, _, _, rfl, _, _, rfl, rfl, hw _ _, ?_⟩
    dsimp only [tYes]
    rw [if_pos rfl]
    refine (he t (List.mem_of_getElem? ht) H2 g.same _ fun q nq => ?_)
    rw [take_snoc ht, List.map_append]
    refine g.step nD nq (G t).1 (G t).2 ?_
    have : m < f.length := (List.getElem?_eq_some_iff.mp ht).1
    rw [List.length_map, List.length_take]
    omega
  · intro H2 g
    rw [hP.len, List.take_length] at g
    exact k D H2 nD g
end
/-- tuple(the list of pairs) -/
theorem rd_tuple {K : PySem.W.Frag} {H0 H : Hp} {D : Addr} {f : Pol} {Q : VK} (g : Grow K H0 D f H) (k : ∀ v H', Same H0 H' → TPol K H' v f → Q v H') :
    ∃ p ys, [V.ref D] = [V.ref p] ∧ ((SqL K H p ys ∧ ∀ l, H l = none → Q (.ref l) (upd H l (.tup ys))) ∨ (SqT K H p ys ∧ Q (.ref p) H)) := by
  obtain ⟨xs, h1, h2⟩ := g.ex
  exact ⟨D, xs, rfl, .inl ⟨SqL.of h1, fun l nl => k _ _ (g.same.trans (same_new nl)) ⟨l, xs, rfl, SqT.of upd_same, Prs.tp (tp_new nl) h2⟩⟩⟩
/-! ### a def as the top leaves it -/
structure Df (K : PySem.W.Frag) (mg : Str → Option Value) (x : Str) (st : Stmt) : Prop where
  ex : ∃ (f : Addr) (fd : FuncData), Fun K x x st f fd ∧ mg x = some (.ref f) ∧ PySem.W.keepIn K (.ref f) = true
theorem df_mk {K : PySem.W.Frag} {h : Heap} {mg : Str → Option Value} {x : Str} {st : Stmt} {f : Addr} {oc : Value} {od an : Option Addr} {osl : Array (Option Value)} {kV doc pm cdv ct : Value} (X : K.In h) (G : h.Ns mainGlobals mg)
    (a : PySem.W.nsIn K mainGlobals x = some (some (.ref f))) (l : K.lookup f = some ⟨oc, od, .func (PySem.W.fnOf x x (defArgs st) (defBody st) (defScope st) .none kV doc pm an cdv ct), osl⟩) (c : PySem.W.codeIn K cdv x = true) (k : PySem.W.keepIn K (.ref f) = true) : Df K mg x st :=
  ⟨f, _, fun_mk (st := st) l c k, PySem.W.mg_of X G a, k⟩
theorem cal_of {P : Program} {w : World} {K : PySem.W.Frag} {mg : Str → Option Value} {base : Heap} {k : Nat} {x : Str} {st : Stmt} {ps : List Str} {sp : Sp} (D : Df K mg x st)
    (b : ∀ (kV doc pm : Value) (an : Option Addr) (cdv ct : Value) (us : List Value), us.length = ps.length → bindArgs (PySem.W.fnOf x x (defArgs st) (defBody st) (defScope st) .none kV doc pm an cdv ct) ⟨us, []⟩ = pure (ps.zip us))
    (ok : ∀ f fd, Fun K x x st f fd → FnOk P w K mg base CX0 k f fd ps sp) : Cal P w K mg base k x sp := by
  obtain ⟨f, fd, F, hm, kp⟩ := D.ex
  exact ⟨f, fd, ps, ok f fd F, hm, kp, F.binds b⟩
end DR
namespace DR
open PySem PySem.Spec PyProof.Rows L2
/-! ### the pen that draws from the script -/
theorem n_cu : ¬ ((Sum.inr ("cells" : Str) : Key) = Sum.inr ("used" : Str)) := by decide +kernel
theorem n_cl : ¬ ((Sum.inr ("cells" : Str) : Key) = Sum.inr ("left" : Str)) := by decide +kernel
theorem n_ul : ¬ ((Sum.inr ("used" : Str) : Key) = Sum.inr ("left" : Str)) := by decide +kernel
theorem n_lu : ¬ ((Sum.inr ("left" : Str) : Key) = Sum.inr ("used" : Str)) := by decide +kernel
def penKv (c : Addr) (u l : Int) : List (Key × V) := [(Sum.inr ("cells" : Str), .ref c), (Sum.inr ("used" : Str), .int u), (Sum.inr ("left" : Str), .int l)]
section
variable (c : Addr) (u l x : Int)
theorem pen_cells : valV (penKv c u l) (Sum.inr ("cells" : Str) : Key) = some (.ref c) := valV_pos rfl
theorem pen_used : valV (penKv c u l) (Sum.inr ("used" : Str) : Key) = some (.int u) := by
  unfold penKv
  rw [valV_neg n_cu, valV_pos rfl]
theorem pen_left : valV (penKv c u l) (Sum.inr ("left" : Str) : Key) = some (.int l) := by
  unfold penKv
  rw [valV_neg n_cl, valV_neg n_ul, valV_pos rfl]
theorem pen_setU : putK (penKv c u l) (Sum.inr ("used" : Str) : Key) (.int x) = penKv c x l := by
  unfold putK
  rw [valV_any, pen_used, if_pos (by rfl)]
  unfold penKv
  rw [List.map_cons, List.map_cons, List.map_cons, List.map_nil, if_neg n_cu, if_pos rfl, if_neg n_lu]
theorem pen_setL : putK (penKv c u l) (Sum.inr ("left" : Str) : Key) (.int x) = penKv c u x := by
  unfold putK
  rw [valV_any, pen_left, if_pos (by rfl)]
  unfold penKv
  rw [List.map_cons, List.map_cons, List.map_cons, List.map_nil, if_neg n_cl, if_neg n_ul, if_pos rfl]
theorem pen_merge : mergeK [] (penKv c u l) = penKv c u l := by
  have e1 : putK ([] : List (Key × V)) (Sum.inr ("cells" : Str)) (.ref c) = [(Sum.inr ("cells" : Str), .ref c)] := putK_new _ valV_nil
  have e2 : putK ([(Sum.inr ("cells" : Str), .ref c)] : List (Key × V)) (Sum.inr ("used" : Str)) (.int u) = [(Sum.inr ("cells" : Str), .ref c), (Sum.inr ("used" : Str), .int u)] := putK_new _ (by rw [valV_neg n_cu]; exact valV_nil)
  have e3 : putK ([(Sum.inr ("cells" : Str), .ref c), (Sum.inr ("used" : Str), .int u)] : List (Key × V)) (Sum.inr ("left" : Str)) (.int l) = penKv c u l := putK_new _ (by rw [valV_neg n_cl, valV_neg n_ul]; exact valV_nil)
  show putK (putK (putK ([] : List (Key × V)) (Sum.inr ("cells" : Str)) (.ref c)) (Sum.inr ("used" : Str)) (.int u)) (Sum.inr ("left" : Str)) (.int l) = _
  rw [e1, e2, e3]
end
/-- a pen at p, its cells at c, that has drawn at most n numbers -/
structure PenAt (H : Hp) (p c : Addr) (n : Nat) : Prop where
  ex : ∃ (ns : List Int) (u l : Int), H p = some (.dK (penKv c u l)) ∧ H c = some (.lst (ns.map V.int)) ∧ 0 ≤ u ∧ u ≤ n
section
variable {H H' : Hp} {p c : Addr} {n m : Nat}
theorem PenAt.dict (h : PenAt H p c n) : ∃ kvs, H p = some (.dK kvs) := by
  obtain ⟨ns, u, l, h1, _⟩ := h.ex
  exact ⟨_, h1⟩
theorem PenAt.cells (h : PenAt H p c n) : ∃ xs, H c = some (.lst xs) := by
  obtain ⟨ns, u, l, _, h2, _⟩ := h.ex
  exact ⟨_, h2⟩
theorem PenAt.np {q : Addr} (h : PenAt H p c n) (hq : H q = none) : q ≠ p := (h.dict.elim fun _ e => ne_of_none e hq).symm
theorem PenAt.nc {q : Addr} (h : PenAt H p c n) (hq : H q = none) : q ≠ c := (h.cells.elim fun _ e => ne_of_none e hq).symm
theorem PenAt.mono (h : PenAt H p c n) (e : n ≤ m) : PenAt H p c m := by
  obtain ⟨ns, u, l, h1, h2, h3, h4⟩ := h.ex
  exact ⟨ns, u, l, h1, h2, h3, by omega⟩
theorem PenAt.same (h : PenAt H p c n) (s : Same H H') : PenAt H' p c n := by
  obtain ⟨ns, u, l, h1, h2, h3⟩ := h.ex
  exact ⟨ns, u, l, s _ _ h1, s _ _ h2, h3⟩
/-- another object changes -/
theorem PenAt.upd {q : Addr} {o : HO} (h : PenAt H p c n) (h1 : q ≠ p) (h2 : q ≠ c) : PenAt (upd H q o) p c n := by
  obtain ⟨ns, u, l, a1, a2, a3⟩ := h.ex
  exact ⟨ns, u, l, by rw [upd_ne h1.symm]; exact a1, by rw [upd_ne h2.symm]; exact a2, a3⟩
theorem PenAt.tp (h : PenAt H p c n) (k : Kp p H H') : Tp H H' := h.dict.elim fun _ e => k.tp e
end
end DR
namespace DR
open PySem PySem.Spec PyProof.Rows L2
/-! ### what the defs promise -/
def primes : List Int := [2, 3, 5, 7, 11, 13, 17, 19, 23, 29, 31, 37, 41, 43, 47, 53, 59, 61, 67, 71, 73, 79, 83, 89, 97]
theorem prime_rng : ∀ q ∈ primes, 2 ≤ q ∧ q ≤ 97 := by decide
def sp_from_sums (K : PySem.W.Frag) : Sp := fun vs H Q _ => ∃ (p : Int) (d : Addr) (m : Pol), vs = [.int p, .ref d] ∧ 0 < p ∧ H d = some (.dK (kvOf m)) ∧ (m.map (·.1)).Nodup ∧ m.length ≤ 1000000 ∧ ∀ v H' g, Same H H' → TPol K H' v g → Nf p g (cf m) → Q v H'
def sp_normalize (K : PySem.W.Frag) : Sp := fun vs H Q _ => ∃ (p : Int) (v : V) (ps : Pol), vs = [.int p, v] ∧ 0 < p ∧ (TPol K H v ps ∨ LPol K H v ps) ∧ ps.length ≤ 1000000 ∧ ∀ u H' g, Same H H' → TPol K H' u g → Nf p g (cf ps) → Q u H'
def sp_move (K : PySem.W.Frag) : Sp := fun vs H Q _ => ∃ (v : V) (f : Pol) (n : Int), vs = [v, .int n] ∧ TPol K H v f ∧ f.length ≤ 1000000 ∧ ∀ u H', Same H H' → TPol K H' u (moved n f) → Q u H'
def sp_add (K : PySem.W.Frag) : Sp := fun vs H Q _ => ∃ (p : Int) (v1 v2 : V) (f g : Pol), vs = [.int p, v1, v2] ∧ 0 < p ∧ TPol K H v1 f ∧ TPol K H v2 g ∧ f.length + g.length ≤ 1000000 ∧ ∀ u H' r, Same H H' → TPol K H' u r → Nf p r (fun e => cf f e + cf g e) → Q u H'
def sp__law_pen (K : PySem.W.Frag) : Sp := fun vs H Q _ => ∃ (a : Addr) (ns : List Int), vs = [.ref a] ∧ SqL K H a (ns.map V.int) ∧ ∀ p c H', H p = none → Same H H' → PenAt H' p c 0 → Q (.ref p) H'
def sp__law_draw : Sp := fun vs H Q _ => ∃ (p c : Addr) (many : Int) (n : Nat), vs = [.ref p, .int many] ∧ 0 < many ∧ many.natAbs < 2 ^ 400 ∧ PenAt H p c n ∧ n < 2 ^ 40 ∧ ∀ r H', 0 ≤ r → r < many → Kp p H H' → PenAt H' p c (n + 1) → Q (.int r) H'
def sp__law_pick : Sp := fun vs H Q _ => ∃ (p c o : Addr) (n : Nat) (xs : List V), vs = [.ref p, .ref o] ∧ PenAt H p c n ∧ n < 2 ^ 40 ∧ H o = some (.lst xs) ∧ 0 < xs.length ∧ xs.length ≤ 100000 ∧ ∀ v H', v ∈ xs → Kp p H H' → PenAt H' p c (n + 1) → Q v H'
def sp__law_prime : Sp := fun vs H Q _ => ∃ (p c : Addr) (n : Nat), vs = [.ref p] ∧ PenAt H p c n ∧ n + 2 < 2 ^ 40 ∧ ∀ q H', q ∈ primes → Kp p H H' → PenAt H' p c (n + 2) → Q (.int q) H'
def sp__law_integer : Sp := fun vs H Q _ => ∃ (p c : Addr) (most : Int) (n : Nat), vs = [.ref p, .int most] ∧ 0 ≤ most ∧ most.natAbs < 10 ^ 90 ∧ PenAt H p c n ∧ n < 2 ^ 40 ∧ ∀ r H', r.natAbs ≤ most.natAbs → Kp p H H' → PenAt H' p c (n + 1) → Q (.int r) H'
/-! ### effects -/
def TEff (K : PySem.W.Frag) (H : Hp) (v : V) (f : Pol) (n : Int) : Prop := ∃ a x, v = .ref a ∧ SqT K H a [x, .int n] ∧ TPol K H x f
theorem TEff.tp {K : PySem.W.Frag} {H H' : Hp} {v : V} {f : Pol} {n : Int} (e : Tp H H') (h : TEff K H v f n) : TEff K H' v f n := by
  obtain ⟨a, x, rfl, hs, hx⟩ := h
  exact ⟨a, x, rfl, tp_t e hs, hx.tp e⟩
def ed (f : Pol) (n : Int) : PyData := .tuple [pd f, .int n]
theorem TEff.dp {K : PySem.W.Frag} {H : Hp} {v : V} {f : Pol} {n : Int} (h : TEff K H v f n) : Dp K H v (ed f n) := by
  obtain ⟨a, x, rfl, hs, hx⟩ := h
  exact .tup hs (.cons hx.dp (.cons (.int _) .nil))
def sp_compose (K : PySem.W.Frag) : Sp := fun vs H Q _ => ∃ (p : Int) (v1 v2 : V) (f g : Pol) (m n : Int), vs = [.int p, v1, v2] ∧ 0 < p ∧ TEff K H v1 f m ∧ TEff K H v2 g n ∧ f.length + g.length ≤ 1000000 ∧ ∀ u H' r, Same H H' → TEff K H' u r (m + n) → Nf p r (fun e => cf f e + cf g (e - m)) → Q u H'
theorem moved_len (n : Int) (f : Pol) : (moved n f).length = f.length := by
  unfold moved
  rw [List.length_map]
/-! ### a comprehension that draws -/
/-! ### comparisons of data -/
theorem nz_check : (primes.all fun q => (List.range q.toNat).all fun a => (List.range q.toNat).all fun b => a == 0 || b == 0 || (a * b % q.toNat != 0)) = true := by decide +kernel
theorem prime_nz {q : Int} (hq : q ∈ primes) {a b : Int} (ha : 0 < a) (ha' : a < q) (hb : 0 < b) (hb' : b < q) : a * b % q ≠ 0 := by
  intro h
  have h1 := List.all_eq_true.mp nz_check q hq
  have h2 := List.all_eq_true.mp h1 a.toNat (List.mem_range.mpr (by omega))
  have h3 := List.all_eq_true.mp h2 b.toNat (List.mem_range.mpr (by omega))
  simp only [Bool.or_eq_true, beq_iff_eq, bne_iff_ne, ne_eq] at h3
  rcases h3 with (h3 | h3) | h3
  · omega
  · omega
  · apply h3
    have e : ((a.toNat * b.toNat % q.toNat : Nat) : Int) = a * b % q := by
      rw [Int.natCast_emod, Int.natCast_mul, Int.toNat_of_nonneg (by omega), Int.toNat_of_nonneg (by omega), Int.toNat_of_nonneg (by omega)]
    rw [h] at e
    omega
theorem nf_one {q e c : Int} (h1 : 0 < c) (h2 : c < q) : Nf q [(e, c)] (cf [(e, c)]) := by
  refine ⟨List.pairwise_singleton _ _, fun t h => ?_, fun x => ?_⟩
  · have : t = (e, c) := by simpa using h
    rw [this]
    exact ⟨h1, h2⟩
  · rw [cf_cons, cf_nil]
    by_cases h : e = x
    · rw [if_pos h, Int.add_zero, Int.emod_eq_of_lt (by omega) h2]
    · rw [if_neg h]
      rfl
end DR
namespace DR
open PySem PySem.Spec PyProof.Rows L2
/-! ### any data, and what is told of it -/
def tyName : PyData → String
  | .none => "NoneType"
  | .bool _ => "bool"
  | .int _ => "int"
  | .str _ => "str"
  | .list _ => "list"
  | .tuple _ => "tuple"
  | .dict _ => "dict"
def isTup : PyData → Bool
  | .tuple _ => true
  | _ => false
def isInt' : PyData → Bool
  | .int _ => true
  | .bool _ => true
  | _ => false
def isBool : PyData → Bool
  | .bool _ => true
  | _ => false
def isWhole : PyData → Bool
  | .int _ => true
  | _ => false
/-- data, or an empty dict -/
def DpX (K : PySem.W.Frag) (H : Hp) (v : V) (d : PyData) : Prop := Dp K H v d ∨ ∃ a, v = .ref a ∧ H a = some (.dK []) ∧ d = .dict []
section
variable {K : PySem.W.Frag} {H H' : Hp} {v : V} {d : PyData}
theorem Dp.ty (h : Dp K H v d) : TyX K H v (.type (tyName d)) := by
  cases h with
  | non => exact .base .non
  | bl b => exact .base (.bl b)
  | int i => exact .base (.int i)
  | str x => exact .base (.str x)
  | lst hs _ =>
    rcases hs with (h | ⟨o, h⟩) | ⟨o, its, n, h, c, _⟩
    · exact .base (.lst h)
    · exact .base (.frz h)
    · exact .kList h c
  | tup hs _ =>
    rcases hs with (h | ⟨o, h⟩) | ⟨o, its, n, h, c, _⟩
    · exact .base (.tup h)
    · exact .fTuple h
    · exact .kTuple h c
theorem DpX.ty (h : DpX K H v d) : TyX K H v (.type (tyName d)) := by
  rcases h with h | ⟨a, rfl, h, rfl⟩
  · exact Dp.ty h
  · exact .base (.dK h)
theorem kit_tuple (d : PyData) : PySem.W.kitOne K (.type (tyName d)) (.type "tuple") = some (isTup d) := by
  cases d with
  | none => exact kit_ty (show kitB "NoneType" "tuple" = some false by decide +kernel)
  | bool b => exact kit_ty (show kitB "bool" "tuple" = some false by decide +kernel)
  | int i => exact kit_ty (show kitB "int" "tuple" = some false by decide +kernel)
  | str x => exact kit_ty (show kitB "str" "tuple" = some false by decide +kernel)
  | list xs => exact kit_ty (show kitB "list" "tuple" = some false by decide +kernel)
  | tuple xs => exact kit_ty (show kitB "tuple" "tuple" = some true by decide +kernel)
  | dict kvs => exact kit_ty (show kitB "dict" "tuple" = some false by decide +kernel)
theorem kit_int (d : PyData) : PySem.W.kitOne K (.type (tyName d)) (.type "int") = some (isInt' d) := by
  cases d with
  | none => exact kit_ty (show kitB "NoneType" "int" = some false by decide +kernel)
  | bool b => exact kit_ty (show kitB "bool" "int" = some true by decide +kernel)
  | int i => exact kit_ty (show kitB "int" "int" = some true by decide +kernel)
  | str x => exact kit_ty (show kitB "str" "int" = some false by decide +kernel)
  | list xs => exact kit_ty (show kitB "list" "int" = some false by decide +kernel)
  | tuple xs => exact kit_ty (show kitB "tuple" "int" = some false by decide +kernel)
  | dict kvs => exact kit_ty (show kitB "dict" "int" = some false by decide +kernel)
theorem kit_bool (d : PyData) : PySem.W.kitOne K (.type (tyName d)) (.type "bool") = some (isBool d) := by
  cases d with
  | none => exact kit_ty (show kitB "NoneType" "bool" = some false by decide +kernel)
  | bool b => exact kit_ty (show kitB "bool" "bool" = some true by decide +kernel)
  | int i => exact kit_ty (show kitB "int" "bool" = some false by decide +kernel)
  | str x => exact kit_ty (show kitB "str" "bool" = some false by decide +kernel)
  | list xs => exact kit_ty (show kitB "list" "bool" = some false by decide +kernel)
  | tuple xs => exact kit_ty (show kitB "tuple" "bool" = some false by decide +kernel)
  | dict kvs => exact kit_ty (show kitB "dict" "bool" = some false by decide +kernel)
mutual
theorem Dp.same (e : Same H H') : ∀ {v : V} {d : PyData}, Dp K H v d → Dp K H' v d
  | _, _, .non => .non
  | _, _, .bl b => .bl b
  | _, _, .int i => .int i
  | _, _, .str x => .str x
  | _, _, .lst hs ha => .lst (e.seq hs) (DpAll.same e ha)
  | _, _, .tup hs ha => .tup (same_t e hs) (DpAll.same e ha)
theorem DpAll.same (e : Same H H') : ∀ {vs : List V} {ds : List PyData}, DpAll K H vs ds → DpAll K H' vs ds
  | _, _, .nil => .nil
  | _, _, .cons h t => .cons (Dp.same e h) (DpAll.same e t)
end
theorem DpX.same (e : Same H H') (h : DpX K H v d) : DpX K H' v d := h.elim (fun z => .inl (Dp.same e z)) fun ⟨a, e1, e2, e3⟩ => .inr ⟨a, e1, e _ _ e2, e3⟩
theorem DpAll.len : ∀ {vs : List V} {ds : List PyData}, DpAll K H vs ds → vs.length = ds.length
  | _, _, .nil => rfl
  | _, _, .cons _ t => by rw [List.length_cons, List.length_cons, DpAll.len t]
theorem DpAll.get : ∀ {vs : List V} {ds : List PyData} {i : Nat} {x : V}, DpAll K H vs ds → vs[i]? = some x → ∃ d, ds[i]? = some d ∧ Dp K H x d
  | _, _, _, _, .nil, e => by simp at e
  | _, _, 0, _, .cons h _, e => by
    simp at e
    subst e
    exact ⟨_, rfl, h⟩
  | _, _, i + 1, x, .cons _ t, e => by
    obtain ⟨d, h1, h2⟩ := DpAll.get (i := i) (x := x) t (by simpa using e)
    exact ⟨d, by simpa using h1, h2⟩
/-- a tuple's items -/
theorem Dp.tup_inv {ds : List PyData} (h : Dp K H v (.tuple ds)) : ∃ a xs, v = .ref a ∧ SqT K H a xs ∧ DpAll K H xs ds := by
  cases h with
  | tup hs ha => exact ⟨_, _, rfl, hs, ha⟩
end
def sp_is_whole (K : PySem.W.Frag) : Sp := fun vs H Q _ => ∃ (v : V) (d : PyData), vs = [v] ∧ DpX K H v d ∧ Q (.bl (isWhole d)) H
/-! ### what canonical polynomials and effects are told to be -/
theorem two {α : Type} {xs : List α} (h : xs.length = 2) : ∃ a b, xs = [a, b] := by
  match xs, h with
  | [a, b], _ => exact ⟨a, b, rfl⟩
end DR
/-! ### repr of data that holds empty dicts: the table of modules stands apart from it -/
namespace DR
open PySem PySem.Spec PyProof.Rows L2
/-- the table of modules stands in this heap -/
def Sys (h : Heap) : Prop := ∃ o es ep, h.get? sysModules = some o ∧ o.data = .dict es ep
mutual
/-- data that may hold empty dicts at any depth -/
inductive DpE (K : PySem.W.Frag) (H : Hp) : V → PyData → Prop
  | non : DpE K H .non .none
  | bl (b : Bool) : DpE K H (.bl b) (.bool b)
  | int (i : Int) : DpE K H (.int i) (.int i)
  | str (x : Str) : DpE K H (.str x) (.str x)
  | emp {a : Addr} : H a = some (.dK []) → DpE K H (.ref a) (.dict [])
  | lst {a : Addr} {xs : List V} {ds : List PyData} : SqL K H a xs → DpEs K H xs ds → DpE K H (.ref a) (.list ds)
  | tup {a : Addr} {xs : List V} {ds : List PyData} : SqT K H a xs → DpEs K H xs ds → DpE K H (.ref a) (.tuple ds)
inductive DpEs (K : PySem.W.Frag) (H : Hp) : List V → List PyData → Prop
  | nil : DpEs K H [] []
  | cons {x : V} {xs : List V} {d : PyData} {ds : List PyData} : DpE K H x d → DpEs K H xs ds → DpEs K H (x :: xs) (d :: ds)
end
section
variable {K : PySem.W.Frag} {H H' : Hp}
mutual
theorem Dp.e : ∀ {v : V} {d : PyData}, Dp K H v d → DpE K H v d
  | _, _, .non => .non
  | _, _, .bl b => .bl b
  | _, _, .int i => .int i
  | _, _, .str x => .str x
  | _, _, .lst h t => .lst h (DpAll.e t)
  | _, _, .tup h t => .tup h (DpAll.e t)
theorem DpAll.e : ∀ {vs : List V} {ds : List PyData}, DpAll K H vs ds → DpEs K H vs ds
  | _, _, .nil => .nil
  | _, _, .cons h t => .cons (Dp.e h) (DpAll.e t)
end
theorem DpX.e {v : V} {d : PyData} (h : DpX K H v d) : DpE K H v d := by
  rcases h with h | ⟨a, rfl, ha, rfl⟩
  · exact Dp.e h
  · exact .emp ha
mutual
theorem DpE.same (e : Same H H') : ∀ {v : V} {d : PyData}, DpE K H v d → DpE K H' v d
  | _, _, .non => .non
  | _, _, .bl b => .bl b
  | _, _, .int i => .int i
  | _, _, .str x => .str x
  | _, _, .emp h => .emp (e _ _ h)
  | _, _, .lst h t => .lst (same_l e h) (DpEs.same e t)
  | _, _, .tup h t => .tup (same_t e h) (DpEs.same e t)
theorem DpEs.same (e : Same H H') : ∀ {vs : List V} {ds : List PyData}, DpEs K H vs ds → DpEs K H' vs ds
  | _, _, .nil => .nil
  | _, _, .cons h t => .cons (DpE.same e h) (DpEs.same e t)
end
theorem DpEs.app : ∀ {xs ys : List V} {ds es : List PyData}, DpEs K H xs ds → DpEs K H ys es → DpEs K H (xs ++ ys) (ds ++ es)
  | _, _, _, _, .nil, h => h
  | _, _, _, _, .cons a t, h => .cons a (DpEs.app t h)
theorem DpEs.len : ∀ {xs : List V} {ds : List PyData}, DpEs K H xs ds → xs.length = ds.length
  | _, _, .nil => rfl
  | _, _, .cons _ t => congrArg (· + 1) (DpEs.len t)
end
/-! the law's call, told that the table of modules stands -/
end DR
/-! ### laws whose own text makes lambdas: the tables of code objects are tracked from the start -/
namespace DR
open PySem PySem.Spec PyProof.Rows L2 LamX
abbrev emptyTab : Obj := { cls := .none, data := .fields #[] }
/-- what is known of the makers' code objects before the call -/
structure Makers (K : PySem.W.Frag) (mg : Str → Option Value) (h : Heap) (cs : List (Addr × Addr)) : Prop where
  tab : ∀ t ∈ cs, h.get? t.2 = some emptyTab
  out : ∀ t ∈ cs, K.lookup t.2 = none
  code : ∀ t ∈ cs, PySem.W.CodeHd h t.1 t.2
  blt : ∃ (bm : Addr) (ob : Obj), mg "__builtins__" = some (.ref bm) ∧ bm ≠ builtinsNs ∧ h.get? bm = some ob ∧ ob.cls = .type "module" ∧ ob.dict = some builtinsNs ∧ ob.data = .plain
/-- nothing is tracked but the tables and the script -/
structure OnlyT (K : PySem.W.Frag) (cs : List (Addr × Addr)) (a : Addr) (H : Hp) : Prop where
  tab : ∀ t ∈ cs, H t.2 = some (.tbl #[])
  kind : ∀ b, H b = none ∨ b ∈ cs.map (·.2) ∨ ∃ ob xs, H b = some (.frz ob (.lst xs))
  few : ∀ b, H b ≠ none → b = a ∨ b ∈ cs.map (·.2)
  scr : H a ≠ none → K.lookup a = none
theorem law_keptT {P : Program} {w : World} {K : PySem.W.Frag} {mg mb : Str → Option Value} {fa a : Addr} {cs : List (Addr × Addr)} {fd : FuncData} {x : Str} {sp : Sp} {s₁ : Shared} {vs : List Value} {ns : List Int}
    (W : Stand K mg mb s₁) (hm : Sys s₁.heap) (Mk : Makers K mg s₁.heap cs)
    (ha : s₁.heap.get? a = some { cls := .type "list", data := .seq vs.toArray }) (hi : IntsAre vs ns) (hl : ns.length ≤ sizeLine)
    (F : ∀ base : Heap, K.In base → base.Ns mainGlobals mg → Sys base → (∀ t ∈ cs, TabB base mg t.1 t.2) → Kept P w K mg base fa fd [x] sp) (hbind : ∀ (s : Shared) (u : Value), BindsTo s fd ⟨[u], []⟩ [(x, u)])
    (hsp : ∀ H : Hp, (∀ t ∈ cs, H t.2 = some (.tbl #[])) → SqL K H a (ns.map V.int) → sp [.ref a] H (fun v _ => v = .bl true) fun _ _ _ => False) :
    codeAny (model P w) callerA (.call (.ref fa) ⟨[.ref a], []⟩) (Passed s₁) s₁ := by
  have rv := vals_ints hi
  have tabAt : ∀ b, b ∈ cs.map (·.2) → s₁.heap.get? b = some emptyTab := fun b hb => by
    obtain ⟨t, ht, rfl⟩ := List.mem_map.mp hb
    exact Mk.tab t ht
  have aOut : a ∉ cs.map (·.2) := fun z => by
    have := tabAt a z
    rw [ha] at this
    cases this
  have inT : ∀ t ∈ cs, t.2 ∈ cs.map (·.2) := fun t ht => List.mem_map.mpr ⟨t, ht, rfl⟩
  have core : ∀ H : Hp, OnlyT K cs a H → SqL K H a (ns.map V.int) → HOk P w H s₁.heap → codeAny (model P w) callerA (.call (.ref fa) ⟨[.ref a], []⟩) (Passed s₁) s₁ := by
    intro H O hS ok
    have up : ∀ {b : Addr} {o : Obj}, H b = none → s₁.heap.get? b = some o → (hidT s₁.heap H).get? b = some o := fun q e => hidT_get e q
    -- what is neither the script nor a table is not tracked
    have loose : ∀ {b : Addr} {o : Obj}, s₁.heap.get? b = some o → o ≠ emptyTab → b ≠ a → H b = none := fun {b o} e n1 n2 => by
      cases q : H b with
      | none => rfl
      | some u =>
        rcases O.few b (by rw [q]; exact fun z => nomatch z) with z | z
        · exact absurd z n2
        · rw [tabAt b z] at e
          exact absurd (Option.some.inj e).symm n1
    have dictL : ∀ {b : Addr} {o : Obj} {es : Array DictEntry} {ep : Nat}, s₁.heap.get? b = some o → o.data = .dict es ep → H b = none := fun {b o es ep} e d => by
      refine loose e (fun z => ?_) fun z => ?_
      · rw [z] at d
        cases d
      · rw [z, ha] at e
        cases e
        cases d
    have ns' : ∀ {b : Addr} {m : Str → Option Value}, s₁.heap.Ns b m → (hidT s₁.heap H).Ns b m := fun {b m} ⟨o, es, ep, e, d, r⟩ => ⟨o, es, ep, up (dictL e d) e, d, r⟩
    have kin : K.In (hidT s₁.heap H) := fun b o e => by
      refine up ?_ (W.kin b o e)
      cases q : H b with
      | none => rfl
      | some u =>
        have nn : H b ≠ none := by rw [q]; exact fun z => nomatch z
        rcases O.few b nn with z | z
        · subst z
          rw [O.scr nn] at e
          cases e
        · obtain ⟨t, ht, rfl⟩ := List.mem_map.mp z
          rw [Mk.out t ht] at e
          cases e
    have sys : Sys (hidT s₁.heap H) := hm.elim fun o z => z.elim fun es z => z.elim fun ep z => ⟨o, es, ep, up (dictL z.1 z.2) z.1, z.2⟩
    have M : Mod K mg (hidT s₁.heap H) := ⟨kin, ns' W.mod, ⟨mb, ns' W.std, W.boot⟩, W.free.elim fun mc z => ⟨mc, ns' z.1, z.2⟩⟩
    have tabs : ∀ t ∈ cs, TabB (hidT s₁.heap H) mg t.1 t.2 := fun t ht => by
      have here := Mk.tab t ht
      have notG : mainGlobals ≠ t.2 := fun z => by
        obtain ⟨o, es, ep, e, d, _⟩ := W.mod
        rw [z, here] at e
        cases e
        cases d
      refine ⟨?_, ?_, notG⟩
      · obtain ⟨o, us, file, tf, flags, tg, inF, text, tt, e, r1, r2, rest⟩ := Mk.code t ht
        refine ⟨o, us, file, tf, flags, tg, inF, text, tt, up (loose e (fun z => ?_) fun z => ?_) e, r1, r2, rest⟩
        · rw [z] at r1
          cases r1
        · rw [z, ha] at e
          cases e
          exact absurd (Value.type.inj r1) (by decide)
      · obtain ⟨bm, ob, b1, b2, b3, b4, b5, b6⟩ := Mk.blt
        have n1 : bm ≠ mainGlobals := fun z => by
          obtain ⟨o, es, ep, e, d, _⟩ := W.mod
          rw [← z, b3] at e
          cases e
          rw [b6] at d
          cases d
        have n2 : bm ≠ t.2 := fun z => by
          rw [z, here] at b3
          cases b3
          cases b4
        refine ⟨bm, ob, b1, b2, n1, n2, up (loose b3 (fun z => ?_) fun z => ?_) b3, b4, b5, b6⟩
        · rw [z] at b4
          cases b4
        · rw [z, ha] at b3
          cases b3
          exact absurd (Value.type.inj b4) (by decide)
    have e0 : Env0 P w K mg (hidT s₁.heap H) callerA [] s₁ H := ⟨rfl, M, fun b o e => of_hidT e, Nat.le_of_eq (hidT_size _ _), trivial, fun b z => absurd (show b ∈ ([] : List Addr) from z) (by simp), ok, .of_eq W.none⟩
    refine codeAny_mono (F _ kin (ns' W.mod) sys tabs s₁ H _ [.ref a] [.ref a] _ _ e0 (hbind s₁ (.ref a)) (.cons rfl .nil) (hsp H O.tab hS)) fun r s' h => ?_
    cases r with
    | error e => exact False.elim h
    | ok fl =>
      cases fl with
      | next => exact False.elim h
      | brk => exact False.elim h
      | cont => exact False.elim h
      | ret u =>
        obtain ⟨v, H', os, bare, un, ok', r', q⟩ := h
        obtain rfl : v = .bl true := q
        cases r'
        have stays : ∀ b o, b ∉ cs.map (·.2) → s₁.heap.get? b = some o → s'.heap.get? b = some o := fun b o nb e => by
          rcases O.kind b with z | z | ⟨ob, xs, z⟩
          · exact un.keep b o e z (fun y => absurd (show b ∈ ([] : List Addr) from y) (by simp)) (by simp)
          · exact absurd z nb
          · have z1 := (ok _ _ z).1
            have z2 := (ok' _ _ (un.frzs _ _ _ z)).1
            rw [e] at z1
            cases z1
            exact z2
        have longer : ∀ t ∈ cs, ∃ more : Array Value, s'.heap.get? t.2 = some { cls := .none, data := .fields more } := fun t ht => by
          obtain ⟨more, z⟩ := un.tbls t.2 #[] (O.tab t ht)
          exact ⟨_, ok' t.2 _ z⟩
        refine ⟨rfl, ⟨fun b o e => ?_, fun b o e => ?_⟩, os, bare⟩
        · by_cases hb : b ∈ cs.map (·.2)
          · obtain ⟨t, ht, rfl⟩ := List.mem_map.mp hb
            obtain ⟨more, z⟩ := longer t ht
            rw [Mk.tab t ht] at e
            cases e
            exact .inr (.inl ⟨((Mk.code t ht).tab (Mk.tab t ht)).isCodeTable, rfl, #[], more, rfl, by rw [Array.empty_append]; exact z⟩)
          · exact .inl (stays b o hb e)
        · by_cases hb : b ∈ cs.map (·.2)
          · obtain ⟨t, ht, rfl⟩ := List.mem_map.mp hb
            exact (longer t ht).elim fun _ z => ⟨_, z⟩
          · exact ⟨o, stays b o hb e⟩
  cases hk : K.lookup a with
  | none =>
    have at_a : ∀ u : Option HO, (if a = a then u else none) = u := fun u => if_pos rfl
    refine core (fun b => if b = a then some (.frz { cls := .type "list", data := .seq vs.toArray } (.lst (ns.map V.int))) else if b ∈ cs.map (·.2) then some (.tbl #[]) else none) ⟨fun t ht => ?_, fun b => ?_, fun b => ?_, fun _ => hk⟩ (.inl (.inr ⟨_, if_pos rfl⟩)) fun b u z => ?_
    · have ne : t.2 ≠ a := fun z => aOut (by rw [← z]; exact inT t ht)
      rw [if_neg ne, if_pos (inT t ht)]
    · by_cases q : b = a
      · exact .inr (.inr ⟨_, _, if_pos q⟩)
      · by_cases q2 : b ∈ cs.map (·.2)
        · exact .inr (.inl q2)
        · exact .inl (by rw [if_neg q, if_neg q2])
    · by_cases q : b = a
      · exact fun _ => .inl q
      · by_cases q2 : b ∈ cs.map (·.2)
        · exact fun _ => .inr q2
        · exact fun n => absurd (by rw [if_neg q, if_neg q2]) n
    · by_cases q : b = a
      · have e' := (if_pos q).symm.trans z
        cases e'
        subst q
        have fit : (ns.map V.int).length ≤ sizeLine := (List.length_map _).symm ▸ hl
        exact ⟨ha, fit, vs, _, rv, ha⟩
      · have e' := (if_neg q).symm.trans z
        by_cases q2 : b ∈ cs.map (·.2)
        · have e2 := (if_pos q2).symm.trans e'
          cases e2
          exact tabAt b q2
        · have e2 := (if_neg q2).symm.trans e'
          cases e2
  | some o =>
    have e := W.kin a o hk
    rw [ha] at e
    cases e
    refine core (fun b => if b ∈ cs.map (·.2) then some (.tbl #[]) else none) ⟨fun t ht => if_pos (inT t ht), fun b => ?_, fun b => ?_, fun z => absurd (if_neg aOut) z⟩ (.inr ⟨_, vs.toArray, _, hk, rfl, rfl, rfl, ?_, by simpa using rv⟩) fun b u z => ?_
    · by_cases q2 : b ∈ cs.map (·.2)
      · exact .inr (.inl q2)
      · exact .inl (if_neg q2)
    · by_cases q2 : b ∈ cs.map (·.2)
      · exact fun _ => .inr q2
      · exact fun n => absurd (if_neg q2) n
    · simpa [hi.length] using hl
    · by_cases q2 : b ∈ cs.map (·.2)
      · have e2 := (if_pos q2).symm.trans z
        cases e2
        exact tabAt b q2
      · have e2 := (if_neg q2).symm.trans z
        cases e2
theorem walk_keptT {l : PySem.W.OpenLaw} {q : Program} {loose : List Str} {XP : (Str → Option Value) → Heap → Prop} {YP : World → Heap → Prop} {d : DefRec} {K : Params → PySem.W.Frag} {cs : List (Addr × Addr)} {sp : PySem.W.Frag → Sp} {x : Str}
    (hq : PyProof.Rows.importsNone q = true) (hn : l.most = some 63) (hdf : d.params.defaults = []) (hY : ∀ (w : World) (h : Heap), YP w h → (K w.params).In h)
    (hT : ∀ (w : World) (h : Heap), YP w h → ∀ t ∈ cs, h.get? t.2 = some emptyTab) (hO : ∀ w : World, ∀ t ∈ cs, (K w.params).lookup t.2 = none) (hC : ∀ w : World, ∀ t ∈ cs, PySem.W.codeHdIn (K w.params) t.1 t.2 = true)
    (F : ∀ (w : World) (mg : Str → Option Value) (at_ : Addr) (g : Heap), (K w.params).In g → g.Ns mainGlobals mg → mg d.name = some (.ref at_) →
      ∃ fd : FuncData, (∀ (s : Shared) (u : Value), BindsTo s fd ⟨[u], []⟩ [(x, u)]) ∧ ∀ base : Heap, (K w.params).In base → base.Ns mainGlobals mg → Sys base → (∀ t ∈ cs, TabB base mg t.1 t.2) → Kept l.prog w (K w.params) mg base at_ fd [x] (sp (K w.params)))
    (hsp : ∀ (K : PySem.W.Frag) (H : Hp) (a : Addr) (ns : List Int), ns.length ≤ 63 → (∀ t ∈ cs, H t.2 = some (.tbl #[])) → SqL K H a (ns.map V.int) → sp K [.ref a] H (fun v _ => v = .bl true) fun _ _ _ => False) :
    PySem.W.WalkO q loose XP YP l.row.toRowW d [] (fun f vs => PySem.call f vs) := by
  refine Att.attach_call hn hdf ?_
  intro w _ _ mg _ fa _ _ _ _ a _ ns G Y _ _ _ hmg hobj hints hlen hg
  have kin := hY w _ Y
  obtain ⟨fd, hb, hF⟩ := F w mg fa _ kin G.T.g hmg
  obtain ⟨mm, ⟨o, es, ep, e1, e2, _⟩, _⟩ := (G.T.seer hq).mods
  exact law_keptT ⟨kin, G.T.g, G.T.b, G.T.builtins, G.T.nolimit, hg⟩ ⟨o, es, ep, e1, e2⟩ ⟨hT w _ Y, hO w, fun t ht => PySem.W.codeHd_of_K kin (hC w t ht), G.T.bmain⟩ hobj hints (Nat.le_trans hlen (by decide)) hF hb fun H h1 hS => hsp _ H a ns hlen h1 hS
/-! a def whose code object is known -/
structure FunC (K : PySem.W.Frag) (x : Str) (st : Stmt) (f : Addr) (fd : FuncData) (c : Addr) : Prop where
  ex : ∃ (oc kV doc pm ct : Value) (od an : Option Addr) (osl : Array (Option Value)), fd = PySem.W.fnOf x x (defArgs st) (defBody st) (defScope st) .none kV doc pm an (.ref c) ct ∧ K.lookup f = some ⟨oc, od, .func fd, osl⟩ ∧ PySem.W.codeIn K (.ref c) x = true ∧ PySem.W.keepIn K (.ref f) = true
structure DfC (K : PySem.W.Frag) (mg : Str → Option Value) (x : Str) (st : Stmt) (c : Addr) : Prop where
  ex : ∃ (f : Addr) (fd : FuncData), FunC K x st f fd c ∧ mg x = some (.ref f) ∧ PySem.W.keepIn K (.ref f) = true
theorem df_mkC {K : PySem.W.Frag} {h : Heap} {mg : Str → Option Value} {x : Str} {st : Stmt} {f c : Addr} {oc : Value} {od an : Option Addr} {osl : Array (Option Value)} {kV doc pm ct : Value} (X : K.In h) (G : h.Ns mainGlobals mg)
    (a : PySem.W.nsIn K mainGlobals x = some (some (.ref f))) (l : K.lookup f = some ⟨oc, od, .func (PySem.W.fnOf x x (defArgs st) (defBody st) (defScope st) .none kV doc pm an (.ref c) ct), osl⟩) (k2 : PySem.W.codeIn K (.ref c) x = true) (k : PySem.W.keepIn K (.ref f) = true) : DfC K mg x st c :=
  ⟨f, _, ⟨oc, kV, doc, pm, ct, od, an, osl, rfl, l, k2, k⟩, PySem.W.mg_of X G a, k⟩
/-- the law's own def, where it makes lambdas: its code object stands at c -/
theorem kept_ofC {P : Program} {w : World} {K : PySem.W.Frag} {mg : Str → Option Value} {base : Heap} {x : Str} {st : Stmt} {f c : Addr} {fd : FuncData} {N ps : List Str} {k : Nat} {sp : Sp} (F : FunC K x st f fd c) (S : FnScope N ps (defScope st))
    (len : ∀ vs H Q E, sp vs H Q E → vs.length = ps.length) (room : Room (k + 1) callerA)
    (body : ∀ (s : Shared) (H : Hp) (vs : List V) (Q : VK) (E : XK), Room k (callerA.deeper (envOfC x (defScope st) s.heap.objs.size f (.ref c))) → sp vs H Q E →
      ∃ t, PSs (cxOf CX0 P w K mg base N x (defScope st) f (.ref c) callerA [] s H E).nox (defBody st) t ∧ t { nx := fun _ H' => Q .non H', rt := Q } (start N vs) H) : Kept P w K mg base f fd ps sp := by
  obtain ⟨oc, kV, doc, pm, ct, od, an, osl, rfl, found, code, _⟩ := F.ex
  intro s H args us vs Q E e0 hb r hsp
  have hl := len _ _ _ _ hsp
  have kin : K.In s.heap := e0.mod.kin.keeps fun b o e => (e0.bs b o e).1
  have free := e0.mod.nolimit.keeps fun b o e => (e0.bs b o e).1
  have kinds : ∀ y ∈ ps.zip us, (defScope st).names.lookup y.1 = some .local ∨ ((defScope st).names.lookup y.1 = some .cell ∧ ((cellsFrom (s.heap.objs.size + 1) (defScope st).names []).lookup y.1).isSome = true) := by
    rintro ⟨n, v⟩ hy
    exact (S.par n (List.of_mem_zip hy).1).imp_right fun q => ⟨q, PySem.W.cellsFrom_some _ _ _ (.inl q)⟩
  refine codeAny_call_function room.depth (kin _ _ found) rfl S.co S.gen rfl (PySem.W.codeRec_of kin code) (hb _ _ _ _ ?_)
  refine wpAny_newFunctionEnv_cells S.kind kinds fun env he s1 z => ?_
  subst he
  refine ⟨free.keeps z.toInCall.keep, codeAny_func ?_⟩
  obtain ⟨t, ht, hq⟩ := body s H vs Q E (room.deeper _) hsp
  have I : Inv (cxOf CX0 P w K mg base N x (defScope st) f (.ref c) callerA [] s H E) [] (start N vs) H s1 := inv_start S room.hd e0 hl r z
  refine wpAny_mono (ht.nox.run [] s1 (start N vs) H _ I hq) (fun fl s2 hs => ?_) fun e s2 hs => hs
  cases fl with
  | ret u =>
    obtain ⟨v, _, H', J, rv, q⟩ := hs
    exact ⟨v, H', J.os, J.bare, J.base, J.hok, rv, q⟩
  | next =>
    obtain ⟨_, H', J, q⟩ := hs
    exact ⟨.non, H', J.os, J.bare, J.base, J.hok, rfl, q⟩
  | brk => exact hs.elim fun _ z => z.elim fun _ y => y.2.elim
  | cont => exact hs.elim fun _ z => z.elim fun _ y => y.2.elim
theorem law_ofT {l : PySem.W.OpenLaw} {w : World} {K : PySem.W.Frag} {mg : Str → Option Value} {fa c P : Addr} {x y : Str} {st : Stmt} {sp : Sp} (hfa : mg x = some (.ref fa)) (D : DfC K mg x st c)
    (b : ∀ (kV doc pm : Value) (an : Option Addr) (cdv ct : Value) (s : Shared) (v : Value), BindsTo s (PySem.W.fnOf x x (defArgs st) (defBody st) (defScope st) .none kV doc pm an cdv ct) ⟨[v], []⟩ [(y, v)])
    (ok : ∀ (base : Heap), Sys base → TabB base mg c P → ∀ f fd, FunC K x st f fd c → Kept l.prog w K mg base f fd [y] sp) :
    ∃ fd : FuncData, (∀ (s : Shared) (v : Value), BindsTo s fd ⟨[v], []⟩ [(y, v)]) ∧ ∀ base : Heap, K.In base → base.Ns mainGlobals mg → Sys base → (∀ t ∈ [(c, P)], TabB base mg t.1 t.2) → Kept l.prog w K mg base fa fd [y] sp := by
  obtain ⟨f, fd, F, hm, kp⟩ := D.ex
  cases hfa.symm.trans hm
  refine ⟨fd, ?_, fun base _ _ hs ht => ok base hs (ht _ List.mem_cons_self) fa fd F⟩
  obtain ⟨_, kV, doc, pm, ct, _, an, _, rfl, _⟩ := F.ex
  exact b kV doc pm an (.ref c) ct
def sp_lawT (P : Addr) (K : PySem.W.Frag) : Sp := fun vs H Q _ => ∃ (a : Addr) (ns : List Int), vs = [.ref a] ∧ H P = some (.tbl #[]) ∧ SqL K H a (ns.map V.int) ∧ ns.length ≤ 63 ∧ ∀ H', Q (.bl true) H'
end DR
/-! ### tokens, joined by one blank -/
namespace DR
open PySem PySem.Spec PyProof.Rows L2 TL
/-- the text of these tokens -/
def jn (ts : List Str) : Str := Txt.join " " ts
theorem tl_blank : tl (" " : Str) = [32] := by decide +kernel
theorem tl_jn (ts : List Str) : tl (jn ts) = joinL [32] (ts.map tl) := by
  unfold jn
  rw [join_eq, tl_join, tl_blank]
theorem joinL_cons {S p : List Nat} : ∀ {b : List (List Nat)}, b ≠ [] → joinL S (p :: b) = p ++ (S ++ joinL S b)
  | [], h => absurd rfl h
  | _ :: _, _ => rfl
theorem joinL_two {S : List Nat} : ∀ {a b : List (List Nat)}, a ≠ [] → b ≠ [] → joinL S (a ++ b) = joinL S a ++ (S ++ joinL S b)
  | [], _, h, _ => absurd rfl h
  | [p], b, _, h => joinL_cons h
  | p :: q :: r, b, _, h => by
    have z : (q :: r) ++ b ≠ [] := by simp
    show joinL S (p :: ((q :: r) ++ b)) = _
    rw [joinL_cons z, joinL_two (by simp) h, joinL_cons (by simp : q :: r ≠ [])]
    simp only [List.append_assoc]
theorem jn_two {a b : List Str} (ha : a ≠ []) (hb : b ≠ []) : jn (a ++ b) = jn a ++ " " ++ jn b := by
  refine ext_tl ?_
  rw [tl_append, tl_append, tl_jn, tl_jn, tl_jn, tl_blank, List.map_append, joinL_two (by simpa using ha) (by simpa using hb), List.append_assoc]
theorem jn_one (t : Str) : jn [t] = t := ext_tl (by rw [tl_jn]; rfl)
theorem jn_len (ts : List Str) : (jn ts).length ≤ (ts.map fun t => t.length + 1).sum := by
  rw [len_tl, tl_jn]
  induction ts with
  | nil => exact Nat.le_refl _
  | cons t r ih =>
    rw [List.map_cons, List.map_cons, List.sum_cons, len_tl]
    cases r with
    | nil => exact Nat.le_trans (Nat.le_succ _) (Nat.le_add_right _ _)
    | cons u r =>
      rw [joinL_cons (by simp), List.length_append, List.length_append, List.length_singleton]
      omega
/-! ### the token of a number -/
/-- the signs behind the minus sign, if there is one -/
def dgL (t : List Nat) : List Nat := match t with
  | 45 :: r => r
  | t => t
/-- whether a token begins with the minus sign -/
def isNeg (t : List Nat) : Bool := match t with
  | 45 :: _ => true
  | _ => false
instance (cs : List Nat) : Decidable (NumText.AllDigits cs) := by unfold NumText.AllDigits; exact inferInstance
/-- the number of a token that is well written, whatever its size -/
def ctW (t : List Nat) : Int := if isNeg t then -((NumText.digitsVal (dgL t) : Nat) : Int) else ((NumText.digitsVal (dgL t) : Nat) : Int)
/-- a token is the text of a number with at most 31 digits -/
def CtOk (t : List Nat) : Prop := dgL t ≠ [] ∧ NumText.AllDigits (dgL t) ∧ ((dgL t).head? = some 48 → t = [48]) ∧ (dgL t).length ≤ 31
instance (t : List Nat) : Decidable (CtOk t) := by unfold CtOk; exact inferInstance
/-- the count of a token -/
def ctOf (t : Str) : Option Int := if CtOk (tl t) ∧ (ctW (tl t)).natAbs ≤ 10 ^ 30 then some (ctW (tl t)) else none
end DR
/-! ### t[::-1] of a tuple -/
namespace DR
open PySem PySem.Spec PyProof.Rows L2
/-! ### values that may be shown and told of -/
def tupLen : PyData → Nat
  | .tuple es => es.length
  | _ => 0
/-- data that is shown in n signs at most, k deep at most -/
structure Fits (n k : Nat) (d : PyData) : Prop where
  sh : d.showable = true
  nd : d.hasDict = false
  dp : d.depth ≤ k
  ln : d.shown.length ≤ n
theorem Fits.up {n k n' k' : Nat} {d : PyData} (h : Fits n k d) (a : n ≤ n') (b : k ≤ k') : Fits n' k' d := ⟨h.sh, h.nd, Nat.le_trans h.dp b, Nat.le_trans h.ln a⟩
/-- what repr and is_effect ask -/
structure Shw (d : PyData) : Prop where
  sh : d.showable = true
  nd : d.hasDict = true → d = .dict []
  dp : d.depth ≤ 64
  ln : d.shown.length ≤ sizeLine
  tl : tupLen d ≤ 1000000
  it : ∀ ds, d = .tuple ds → ∀ x ∈ ds, tupLen x ≤ 1000000
def Good (K : PySem.W.Frag) (H : Hp) (v : V) : Prop := ∃ d, DpX K H v d ∧ Shw d
section
variable {K : PySem.W.Frag} {H H' : Hp} {v : V} {l : List V}
theorem Good.same (e : Same H H') (h : Good K H v) : Good K H' v := h.elim fun d z => ⟨d, DpX.same e z.1, z.2⟩
theorem kp_l {p c : Addr} {n : Nat} {a : Addr} {xs : List V} (pen : PenAt H p c n) (k : Kp p H H') (h : SqL K H a xs) : SqL K H' a xs := by
  obtain ⟨kvs, hp⟩ := pen.dict
  rcases h with (h | ⟨o, h⟩) | h
  · exact .inl (.inl (k _ _ (ne_of h hp (by intro z; cases z)) h))
  · exact .inl (.inr ⟨o, k _ _ (ne_of h hp (by intro z; cases z)) h⟩)
  · exact .inr h
mutual
theorem Dp.kp {p c : Addr} {n : Nat} (pen : PenAt H p c n) (k : Kp p H H') : ∀ {v : V} {d : PyData}, Dp K H v d → Dp K H' v d
  | _, _, .non => .non
  | _, _, .bl b => .bl b
  | _, _, .int i => .int i
  | _, _, .str x => .str x
  | _, _, .lst hs ha => .lst (kp_l pen k hs) (DpAll.kp pen k ha)
  | _, _, .tup hs ha => .tup (tp_t (pen.tp k) hs) (DpAll.kp pen k ha)
theorem DpAll.kp {p c : Addr} {n : Nat} (pen : PenAt H p c n) (k : Kp p H H') : ∀ {vs : List V} {ds : List PyData}, DpAll K H vs ds → DpAll K H' vs ds
  | _, _, .nil => .nil
  | _, _, .cons h t => .cons (Dp.kp pen k h) (DpAll.kp pen k t)
end
theorem Good.kp {p c : Addr} {n : Nat} (pen : PenAt H p c n) (k : Kp p H H') (h : Good K H v) : Good K H' v := by
  obtain ⟨d, hd | ⟨a, e1, e2, e3⟩, s⟩ := h
  · exact ⟨d, .inl (Dp.kp pen k hd), s⟩
  · obtain ⟨ns, u, l, hp, _⟩ := pen.ex
    refine ⟨d, .inr ⟨a, e1, k _ _ (ne_of e2 hp (fun z => ?_)) e2, e3⟩, s⟩
    injection z with z
    cases z
end
end DR
namespace DR
open PySem PySem.Spec PyProof.Rows L2
/-! ### values laid out by hand -/
structure Nice (n k : Nat) (d : PyData) : Prop where
  f : Fits n k d
  tl : tupLen d ≤ 1000000
  it : ∀ ds, d = .tuple ds → ∀ x ∈ ds, tupLen x ≤ 1000000
theorem Nice.up {n k n' k' : Nat} {d : PyData} (h : Nice n k d) (a : n ≤ n') (b : k ≤ k') : Nice n' k' d := ⟨h.f.up a b, h.tl, h.it⟩
def FA (K : PySem.W.Frag) (H : Hp) (v : V) : Prop := ∃ d, Dp K H v d ∧ Nice 25000 3 d
def FB (K : PySem.W.Frag) (H : Hp) (v : V) : Prop := ∃ d, Dp K H v d ∧ Nice 100000 4 d
section
variable {K : PySem.W.Frag} {H : Hp} {b : Addr}
variable {H' : Hp} {v w x : V} {Q : VK}
theorem FA.same (e : Same H H') (h : FA K H v) : FA K H' v := h.elim fun d z => ⟨d, Dp.same e z.1, z.2⟩
theorem FB.same (e : Same H H') (h : FB K H v) : FB K H' v := h.elim fun d z => ⟨d, Dp.same e z.1, z.2⟩
theorem FA.kp {p c : Addr} {n : Nat} (pen : PenAt H p c n) (k : Kp p H H') (h : FA K H v) : FA K H' v := h.elim fun d z => ⟨d, Dp.kp pen k z.1, z.2⟩
theorem FB.kp {p c : Addr} {n : Nat} (pen : PenAt H p c n) (k : Kp p H H') (h : FB K H v) : FB K H' v := h.elim fun d z => ⟨d, Dp.kp pen k z.1, z.2⟩
theorem DpAll.append : ∀ {xs ys : List V} {ds es : List PyData}, DpAll K H xs ds → DpAll K H ys es → DpAll K H (xs ++ ys) (ds ++ es)
  | _, _, _, _, .nil, t => t
  | _, _, _, _, .cons h r, t => .cons h (DpAll.append r t)
theorem Sm.snoc {g : Pol} (h : Sm g) (hl : g.length ≤ 100) : Sm (g ++ [(0, 1)]) := ⟨by rw [List.length_append]; show g.length + 1 ≤ _; omega, fun t ht => by
  rcases List.mem_append.mp ht with z | z
  · exact h.abs t z
  · cases List.mem_singleton.mp z
    decide⟩
/-- a heap without the lists that another one holds -/
def er (H0 H : Hp) : Hp := fun b => match H0 b with | some (.lst _) => none | _ => H b
theorem er_at {H0 : Hp} {o : HO} (h : er H0 H b = some o) : H b = some o ∧ ∀ xs, H0 b ≠ some (.lst xs) := by
  unfold er at h
  split at h
  · cases h
  · next h2 => exact ⟨h, fun xs e => h2 xs e⟩
theorem er_of {H0 : Hp} {o : HO} (h : H b = some o) (n : ∀ xs, H0 b ≠ some (.lst xs)) : er H0 H b = some o := by
  unfold er
  split
  · next xs e => exact absurd e (n xs)
  · exact h
theorem er_sub (H0 H : Hp) : Same (er H0 H) H := fun b o e => (er_at e).1
theorem er_same {H0 : Hp} (s : Same H H') : Same (er H0 H) (er H0 H') := fun b o e => er_of (s _ _ (er_at e).1) (er_at e).2
theorem er_kp {H0 : Hp} {p : Addr} (k : Kp p H H') : Kp p (er H0 H) (er H0 H') := fun b o nb e => er_of (k _ _ nb (er_at e).1) (er_at e).2
/-- lists stay -/
def Al (H0 H : Hp) : Prop := ∀ b xs, H0 b = some (.lst xs) → H b ≠ none
theorem Al.refl (H : Hp) : Al H H := fun b xs e z => by rw [e] at z; cases z
theorem Al.same {H0 : Hp} (h : Al H0 H) (s : Same H H') : Al H0 H' := fun b xs e z => by
  cases hb : H b with
  | none => exact h b xs e hb
  | some o => rw [s _ _ hb] at z; cases z
theorem Al.kp {H0 : Hp} {p c : Addr} {n : Nat} (h : Al H0 H) (k : Kp p H H') (pen : PenAt H' p c n) : Al H0 H' := fun b xs e z => by
  by_cases hp : b = p
  · subst hp
    obtain ⟨kvs, d⟩ := pen.dict
    rw [z] at d
    cases d
  · cases hb : H b with
    | none => exact h b xs e hb
    | some o => rw [k _ _ hp hb] at z; cases z
theorem tp_kp {p : Addr} {kvs : List (Key × V)} (hp : H p = some (.dK kvs)) (k : Kp p H H') : Tp H H' := ⟨fun b xs e => k _ _ (ne_of e hp (by intro z; cases z)) e, fun b o u e => k _ _ (ne_of e hp (by intro z; cases z)) e⟩
theorem kpd_l {p : Addr} {kvs : List (Key × V)} {a : Addr} {xs : List V} (hp : H p = some (.dK kvs)) (k : Kp p H H') (h : SqL K H a xs) : SqL K H' a xs := by
  rcases h with (h | ⟨o, h⟩) | h
  · exact .inl (.inl (k _ _ (ne_of h hp (by intro z; cases z)) h))
  · exact .inl (.inr ⟨o, k _ _ (ne_of h hp (by intro z; cases z)) h⟩)
  · exact .inr h
mutual
theorem Dp.kpd {p : Addr} {kvs : List (Key × V)} (hp : H p = some (.dK kvs)) (k : Kp p H H') : ∀ {v : V} {d : PyData}, Dp K H v d → Dp K H' v d
  | _, _, .non => .non
  | _, _, .bl b => .bl b
  | _, _, .int i => .int i
  | _, _, .str x => .str x
  | _, _, .lst hs ha => .lst (kpd_l hp k hs) (DpAll.kpd hp k ha)
  | _, _, .tup hs ha => .tup (tp_t (tp_kp hp k) hs) (DpAll.kpd hp k ha)
theorem DpAll.kpd {p : Addr} {kvs : List (Key × V)} (hp : H p = some (.dK kvs)) (k : Kp p H H') : ∀ {vs : List V} {ds : List PyData}, DpAll K H vs ds → DpAll K H' vs ds
  | _, _, .nil => .nil
  | _, _, .cons h t => .cons (Dp.kpd hp k h) (DpAll.kpd hp k t)
end
end
def er1 (D : Addr) (H : Hp) : Hp := fun b => if b = D then none else H b
theorem er1_at {D b : Addr} {H : Hp} {o : HO} (h : er1 D H b = some o) : b ≠ D ∧ H b = some o := by
  unfold er1 at h
  split at h
  · cases h
  · next z => exact ⟨z, h⟩
theorem er1_of {D b : Addr} {H : Hp} {o : HO} (n : b ≠ D) (h : H b = some o) : er1 D H b = some o := by
  unfold er1
  rw [if_neg n]
  exact h
theorem er1_pen {D p c : Addr} {H : Hp} {n : Nat} (hp : p ≠ D) (hc : c ≠ D) (pen : PenAt H p c n) : PenAt (er1 D H) p c n := by
  obtain ⟨ns, u, l, h1, h2, h3, h4⟩ := pen.ex
  exact ⟨⟨ns, u, l, er1_of hp h1, er1_of hc h2, h3, h4⟩⟩
end DR
/-! ### programs -/
namespace DR
open PySem PySem.Spec PyProof.Rows L2
inductive Ins where
  | step (c : Int)
  | turn (c : Int)
  | rep (n : Int) (b : List Ins)
mutual
def shI : Ins → Int
  | .step c => c
  | .turn _ => 0
  | .rep n b => n * shP b
def shP : List Ins → Int
  | [] => 0
  | i :: r => shI i + shP r
end
mutual
def exI : Ins → Int
  | .step _ => 1
  | .turn _ => 1
  | .rep n b => n * exP b
def exP : List Ins → Int
  | [] => 0
  | i :: r => exI i + exP r
end
mutual
def dpI : Ins → Nat
  | .step _ => 0
  | .turn _ => 0
  | .rep _ b => dpP b + 1
def dpP : List Ins → Nat
  | [] => 0
  | i :: r => max (dpI i) (dpP r)
end
/-! how many instructions, inner ones too -/
mutual
def cnI : Ins → Nat
  | .step _ => 1
  | .turn _ => 1
  | .rep _ b => cnP b + 1
def cnP : List Ins → Nat
  | [] => 0
  | i :: r => cnI i + cnP r
end
/-! counts within 2 ^ 100, bodies of at most 1024 instructions -/
mutual
def WI : Ins → Prop
  | .step c => c.natAbs ≤ 2 ^ 100
  | .turn c => c.natAbs ≤ 2 ^ 100
  | .rep n b => n.natAbs ≤ 2 ^ 100 ∧ b.length ≤ 1024 ∧ WP b
def WP : List Ins → Prop
  | [] => True
  | i :: r => WI i ∧ WP r
end
theorem shP_nil : shP [] = 0 := by unfold shP; rfl
theorem shP_cons (i : Ins) (r : List Ins) : shP (i :: r) = shI i + shP r := by rw [shP]
theorem exP_nil : exP [] = 0 := by unfold exP; rfl
theorem exP_cons (i : Ins) (r : List Ins) : exP (i :: r) = exI i + exP r := by rw [exP]
theorem shP_app : ∀ (a b : List Ins), shP (a ++ b) = shP a + shP b
  | [], b => by rw [List.nil_append, shP_nil, Int.zero_add]
  | i :: r, b => by rw [List.cons_append, shP_cons, shP_cons, shP_app r b, Int.add_assoc]
theorem exP_app : ∀ (a b : List Ins), exP (a ++ b) = exP a + exP b
  | [], b => by rw [List.nil_append, exP_nil, Int.zero_add]
  | i :: r, b => by rw [List.cons_append, exP_cons, exP_cons, exP_app r b, Int.add_assoc]
theorem dpP_cons (i : Ins) (r : List Ins) : dpP (i :: r) = max (dpI i) (dpP r) := by rw [dpP]
theorem dpP_app : ∀ (a b : List Ins), dpP (a ++ b) = max (dpP a) (dpP b)
  | [], b => by
    rw [List.nil_append, show dpP [] = 0 by unfold dpP; rfl]
    omega
  | i :: r, b => by
    rw [List.cons_append, dpP_cons, dpP_cons, dpP_app r b]
    omega
theorem cnP_cons (i : Ins) (r : List Ins) : cnP (i :: r) = cnI i + cnP r := by rw [cnP]
theorem cnP_app : ∀ (a b : List Ins), cnP (a ++ b) = cnP a + cnP b
  | [], b => by
    rw [List.nil_append, show cnP [] = 0 by unfold cnP; rfl]
    omega
  | i :: r, b => by
    rw [List.cons_append, cnP_cons, cnP_cons, cnP_app r b]
    omega
theorem WP_cons (i : Ins) (r : List Ins) : WP (i :: r) = (WI i ∧ WP r) := by rw [WP]
theorem WP_app : ∀ (a b : List Ins), WP a → WP b → WP (a ++ b)
  | [], b, _, h => h
  | i :: r, b, h, h2 => by
    rw [List.cons_append, WP_cons]
    rw [WP_cons] at h
    exact ⟨h.1, WP_app r b h.2 h2⟩
theorem dpP_mem : ∀ {b : List Ins} {i : Ins}, i ∈ b → dpI i ≤ dpP b
  | [], _, h => absurd h List.not_mem_nil
  | j :: r, i, h => by
    rw [dpP_cons]
    rcases List.mem_cons.mp h with e | e
    · rw [e]; omega
    · have := dpP_mem e; omega
theorem WP_mem : ∀ {b : List Ins} {i : Ins}, WP b → i ∈ b → WI i
  | [], _, _, h => absurd h List.not_mem_nil
  | j :: r, i, w, h => by
    rw [WP_cons] at w
    rcases List.mem_cons.mp h with e | e
    · rw [e]; exact w.1
    · exact WP_mem w.2 e
theorem cnP_mem : ∀ {b : List Ins} {i : Ins}, i ∈ b → cnI i ≤ cnP b
  | [], _, h => absurd h List.not_mem_nil
  | j :: r, i, h => by
    rw [cnP_cons]
    rcases List.mem_cons.mp h with e | e
    · rw [e]; omega
    · have := cnP_mem e; omega
theorem cnI_pos (i : Ins) : 0 < cnI i := by
  cases i <;> unfold cnI <;> omega
theorem len_cnP : ∀ b : List Ins, b.length ≤ cnP b
  | [] => Nat.zero_le _
  | i :: r => by
    have := len_cnP r
    have := cnI_pos i
    rw [cnP_cons, List.length_cons]
    omega
/-- how large shifts and executed counts grow -/
theorem bigs (f : Ins → Int) (g : List Ins → Int) (h0 : g [] = 0) (hc : ∀ i r, g (i :: r) = f i + g r) (M : Nat) : ∀ (b : List Ins), (∀ i ∈ b, (f i).natAbs ≤ M) → (g b).natAbs ≤ M * b.length
  | [], _ => by rw [h0]; exact Nat.zero_le _
  | i :: r, h => by
    have h1 := h i List.mem_cons_self
    have h2 := bigs f g h0 hc M r fun j hj => h j (List.mem_cons_of_mem _ hj)
    rw [hc, List.length_cons, Nat.mul_add, Nat.mul_one]
    omega
theorem pow_le2 {a b : Nat} (h : a ≤ b) : 2 ^ a ≤ 2 ^ b := Nat.pow_le_pow_right (by decide) h
theorem sh_big : ∀ (k : Nat) (b : List Ins), dpP b ≤ k → WP b → b.length ≤ 1024 → (shP b).natAbs ≤ 2 ^ (110 * (k + 1))
  | k, b, hd, hw, hl => by
    have hI : ∀ i ∈ b, (shI i).natAbs ≤ 2 ^ (110 * k + 100) := fun i hi => by
      have wi := WP_mem hw hi
      have di := Nat.le_trans (dpP_mem hi) hd
      cases i with
      | step c =>
        rw [shI]
        rw [WI] at wi
        exact Nat.le_trans wi (pow_le2 (by omega))
      | turn c =>
        rw [shI]
        exact Nat.zero_le _
      | rep n bb =>
        rw [shI]
        rw [WI] at wi
        rw [dpI] at di
        have := sh_big (k - 1) bb (by omega) wi.2.2 wi.2.1
        rw [Int.natAbs_mul]
        have e : 110 * (k - 1 + 1) = 110 * k := by omega
        rw [e] at this
        have h3 := Nat.mul_le_mul wi.1 this
        rw [← Nat.pow_add] at h3
        rw [Nat.add_comm]
        exact h3
    have h := bigs shI shP shP_nil shP_cons _ b hI
    have h2 : 2 ^ (110 * k + 100) * b.length ≤ 2 ^ (110 * k + 100) * 2 ^ 10 := Nat.mul_le_mul_left _ hl
    rw [← Nat.pow_add] at h2
    exact Nat.le_trans h h2
termination_by k => k
decreasing_by
  rw [dpI] at di
  omega
theorem ex_big : ∀ (k : Nat) (b : List Ins), dpP b ≤ k → WP b → b.length ≤ 1024 → (exP b).natAbs ≤ 2 ^ (110 * (k + 1))
  | k, b, hd, hw, hl => by
    have hI : ∀ i ∈ b, (exI i).natAbs ≤ 2 ^ (110 * k + 100) := fun i hi => by
      have wi := WP_mem hw hi
      have di := Nat.le_trans (dpP_mem hi) hd
      cases i with
      | step c =>
        rw [exI]
        exact Nat.le_trans (show 1 ≤ 2 ^ 0 by decide) (pow_le2 (by omega))
      | turn c =>
        rw [exI]
        exact Nat.le_trans (show 1 ≤ 2 ^ 0 by decide) (pow_le2 (by omega))
      | rep n bb =>
        rw [exI]
        rw [WI] at wi
        rw [dpI] at di
        have := ex_big (k - 1) bb (by omega) wi.2.2 wi.2.1
        rw [Int.natAbs_mul]
        have e : 110 * (k - 1 + 1) = 110 * k := by omega
        rw [e] at this
        have h3 := Nat.mul_le_mul wi.1 this
        rw [← Nat.pow_add] at h3
        rw [Nat.add_comm]
        exact h3
    have h := bigs exI exP exP_nil exP_cons _ b hI
    have h2 : 2 ^ (110 * k + 100) * b.length ≤ 2 ^ (110 * k + 100) * 2 ^ 10 := Nat.mul_le_mul_left _ hl
    rw [← Nat.pow_add] at h2
    exact Nat.le_trans h h2
termination_by k => k
decreasing_by
  rw [dpI] at di
  omega
/-! ### as data -/
mutual
inductive IsI : PyData → Ins → Prop
  | step (c : Int) : IsI (.tuple [.str "step", .int c]) (.step c)
  | turn (c : Int) : IsI (.tuple [.str "turn", .int c]) (.turn c)
  | rep {d : PyData} {b : List Ins} (n : Int) : IsP d b → IsI (.tuple [.str "repeat", .int n, d]) (.rep n b)
inductive IsP : PyData → List Ins → Prop
  | lst {ds : List PyData} {b : List Ins} : IsAll ds b → IsP (.list ds) b
  | tup {ds : List PyData} {b : List Ins} : IsAll ds b → IsP (.tuple ds) b
inductive IsAll : List PyData → List Ins → Prop
  | nil : IsAll [] []
  | cons {d : PyData} {i : Ins} {ds : List PyData} {b : List Ins} : IsI d i → IsAll ds b → IsAll (d :: ds) (i :: b)
end
theorem IsAll.len : ∀ {ds : List PyData} {b : List Ins}, IsAll ds b → ds.length = b.length
  | _, _, .nil => rfl
  | _, _, .cons _ t => by rw [List.length_cons, List.length_cons, IsAll.len t]
theorem IsAll.get : ∀ {ds : List PyData} {b : List Ins} {j : Nat} {d : PyData}, IsAll ds b → ds[j]? = some d → ∃ i, b[j]? = some i ∧ IsI d i
  | _, _, _, _, .nil, e => by simp at e
  | _, _, 0, _, .cons h _, e => by
    simp at e
    subst e
    exact ⟨_, rfl, h⟩
  | _, _, j + 1, d, .cons _ t, e => by
    obtain ⟨i, h1, h2⟩ := IsAll.get (j := j) (d := d) t (by simpa using e)
    exact ⟨i, by simpa using h1, h2⟩
theorem IsAll.app : ∀ {ds es : List PyData} {a b : List Ins}, IsAll ds a → IsAll es b → IsAll (ds ++ es) (a ++ b)
  | _, _, _, _, .nil, h => h
  | _, _, _, _, .cons h t, h2 => .cons h (IsAll.app t h2)
/-! shown -/
end DR
namespace DR
open PySem PySem.Spec PyProof.Rows L2
/-! ### a call by keywords alone -/
/-! ### least and greatest -/
def loL (x : Int) (r : List Int) : Int := r.foldr min x
def hiL (x : Int) (r : List Int) : Int := r.foldr max x
/-! ### the length of an effect -/
def places (f : Pol) (m : Int) : List Int := m :: f.map (·.1)
def lo (f : Pol) (m : Int) : Int := loL 0 (places f m)
def hi (f : Pol) (m : Int) : Int := hiL 0 (places f m)
/-! ### effects that the laws draw -/
end DR
namespace DR
open PySem PySem.Spec PyProof.Rows L2
theorem iteS {c A B : Prop} [Decidable c] (hc : c) (h : A) : if decide c = true then A else B := by
  rw [if_pos (decide_eq_true hc)]
  exact h
theorem iteN {c A B : Prop} [Decidable c] (hc : ¬ c) (h : B) : if decide c = true then A else B := by
  rw [if_neg (by rw [decide_eq_false hc]; exact Bool.false_ne_true)]
  exact h
theorem iteNN {c A B : Prop} [Decidable c] (hc : ¬ c) (h : A) : if (!decide c) = true then A else B := by
  rw [if_pos (by rw [decide_eq_false hc]; rfl)]
  exact h
theorem v_ts : ¬ (V.str "turn" = V.str "step") := by decide +kernel
theorem v_rs : ¬ (V.str "repeat" = V.str "step") := by decide +kernel
theorem v_sr : ¬ (V.str "step" = V.str "repeat") := by decide +kernel
theorem v_tr : ¬ (V.str "turn" = V.str "repeat") := by decide +kernel
theorem v_rt : ¬ (V.str "repeat" = V.str "turn") := by decide +kernel
/-! ### a def that calls itself: a level for each depth -/
theorem cal_rec {P : Program} {w : World} {K : PySem.W.Frag} {mg : Str → Option Value} {base : Heap} {x : Str} {st : Stmt} {ps : List Str} (c : Nat) {sp : Nat → Sp} (D : Df K mg x st)
    (b : ∀ (kV doc pm : Value) (an : Option Addr) (cdv ct : Value) (us : List Value), us.length = ps.length → bindArgs (PySem.W.fnOf x x (defArgs st) (defBody st) (defScope st) .none kV doc pm an cdv ct) ⟨us, []⟩ = pure (ps.zip us))
    (h0 : ∀ vs H Q E, ¬ sp 0 vs H Q E)
    (step : ∀ k, Cal P w K mg base (k + c) x (sp k) → ∀ f fd, Fun K x x st f fd → FnOk P w K mg base CX0 (k + c + 1) f fd ps (sp (k + 1))) : ∀ k, Cal P w K mg base (k + c) x (sp k)
  | 0 => by
    obtain ⟨f, fd, F, hm, kp⟩ := D.ex
    exact ⟨f, fd, ps, ⟨fun vs H Q E h => absurd h (h0 vs H Q E), fun A outer s H args us vs Q E _ _ _ _ h => absurd h (h0 vs H Q E)⟩, hm, kp, F.binds b⟩
  | k + 1 => by
    obtain ⟨f, fd, F, hm, kp⟩ := D.ex
    have := step k (cal_rec c D b h0 step k) f fd F
    exact ⟨f, fd, ps, (show k + c + 1 = k + 1 + c by omega) ▸ this, hm, kp, F.binds b⟩
/-! ### programs in the heap -/
def PV (K : PySem.W.Frag) (H : Hp) (v : V) (b : List Ins) : Prop := ∃ d, Dp K H v d ∧ IsP d b
def IV (K : PySem.W.Frag) (H : Hp) (v : V) (i : Ins) : Prop := ∃ d, Dp K H v d ∧ IsI d i
abbrev IVs (K : PySem.W.Frag) (H : Hp) : List V → List Ins → Prop := Paired (IV K H)
section
variable {K : PySem.W.Frag} {H H' : Hp} {v x : V} {b : List Ins} {i : Ins} {xs : List V}
theorem PV.same (e : Same H H') (h : PV K H v b) : PV K H' v b := h.elim fun d z => ⟨d, Dp.same e z.1, z.2⟩
theorem IV.same (e : Same H H') (h : IV K H v i) : IV K H' v i := h.elim fun d z => ⟨d, Dp.same e z.1, z.2⟩
theorem PV.kp {p c : Addr} {n : Nat} (pen : PenAt H p c n) (k : Kp p H H') (h : PV K H v b) : PV K H' v b := h.elim fun d z => ⟨d, Dp.kp pen k z.1, z.2⟩
theorem IV.kp {p c : Addr} {n : Nat} (pen : PenAt H p c n) (k : Kp p H H') (h : IV K H v i) : IV K H' v i := h.elim fun d z => ⟨d, Dp.kp pen k z.1, z.2⟩
theorem IVs.same (e : Same H H') : ∀ {xs : List V} {b : List Ins}, IVs K H xs b → IVs K H' xs b
  | _, _, .nil => .nil
  | _, _, .cons r q => .cons (r.same e) (IVs.same e q)
theorem IVs.kp {p c : Addr} {n : Nat} (pen : PenAt H p c n) (k : Kp p H H') : ∀ {xs : List V} {b : List Ins}, IVs K H xs b → IVs K H' xs b
  | _, _, .nil => .nil
  | _, _, .cons r q => .cons (r.kp pen k) (IVs.kp pen k q)
theorem IVs.len (h : IVs K H xs b) : xs.length = b.length := Paired.length h
theorem IVs.get : ∀ {xs : List V} {b : List Ins} {j : Nat} {x : V}, IVs K H xs b → xs[j]? = some x → ∃ i, b[j]? = some i ∧ IV K H x i
  | _, _, _, _, .nil, e => by simp at e
  | _, _, 0, _, .cons r _, e => by
    simp at e
    subst e
    exact ⟨_, rfl, r⟩
  | _, _, j + 1, x, .cons _ q, e => by
    obtain ⟨t, h1, h2⟩ := IVs.get (j := j) (x := x) q (by simpa using e)
    exact ⟨t, by simpa using h1, h2⟩
theorem IVs.app : ∀ {xs ys : List V} {b c : List Ins}, IVs K H xs b → IVs K H ys c → IVs K H (xs ++ ys) (b ++ c)
  | _, _, _, _, .nil, h => h
  | _, _, _, _, .cons r q, h => .cons r (IVs.app q h)
theorem IVs.take : ∀ {xs : List V} {b : List Ins} (n : Nat), IVs K H xs b → IVs K H (xs.take n) (b.take n)
  | _, _, 0, _ => .nil
  | _, _, n + 1, .nil => .nil
  | _, _, n + 1, .cons r q => .cons r (IVs.take n q)
theorem IVs.drop : ∀ {xs : List V} {b : List Ins} (n : Nat), IVs K H xs b → IVs K H (xs.drop n) (b.drop n)
  | _, _, 0, h => h
  | _, _, n + 1, .nil => .nil
  | _, _, n + 1, .cons r q => IVs.drop n q
theorem IVs.all : ∀ {xs : List V} {b : List Ins}, IVs K H xs b → ∃ ds, DpAll K H xs ds ∧ IsAll ds b
  | _, _, .nil => ⟨[], .nil, .nil⟩
  | _, _, .cons ⟨d, h1, h2⟩ q => by
    obtain ⟨ds, a1, a2⟩ := IVs.all q
    exact ⟨d :: ds, .cons h1 a1, .cons h2 a2⟩
theorem ivs_of : ∀ {xs : List V} {ds : List PyData} {b : List Ins}, DpAll K H xs ds → IsAll ds b → IVs K H xs b
  | _, _, _, .nil, .nil => .nil
  | _, _, _, .cons h t, .cons h2 t2 => .cons ⟨_, h, h2⟩ (ivs_of t t2)
theorem pv_list {a : Addr} (h : SqL K H a xs) (hI : IVs K H xs b) : PV K H (.ref a) b := by
  obtain ⟨ds, a1, a2⟩ := hI.all
  exact ⟨_, .lst h a1, .lst a2⟩
theorem PV.inv (h : PV K H v b) : ∃ a xs, v = .ref a ∧ (SqL K H a xs ∨ SqT K H a xs) ∧ IVs K H xs b := by
  obtain ⟨d, hd, hp⟩ := h
  cases hp with
  | lst ha =>
    cases hd with
    | lst hs hall => exact ⟨_, _, rfl, .inl hs, ivs_of hall ha⟩
  | tup ha =>
    cases hd with
    | tup hs hall => exact ⟨_, _, rfl, .inr hs, ivs_of hall ha⟩
theorem IV.inv (h : IV K H x i) : (∃ a c, x = .ref a ∧ SqT K H a [.str "step", .int c] ∧ i = .step c) ∨ (∃ a c, x = .ref a ∧ SqT K H a [.str "turn", .int c] ∧ i = .turn c) ∨
    ∃ a n y bb, x = .ref a ∧ SqT K H a [.str "repeat", .int n, y] ∧ PV K H y bb ∧ i = .rep n bb := by
  obtain ⟨d, hd, hi⟩ := h
  cases hi with
  | step c =>
    obtain ⟨a, xs, rfl, hs, hall⟩ := Dp.tup_inv hd
    cases hall with
    | cons h1 t =>
      cases t with
      | cons h2 t2 =>
        cases t2
        cases h1
        cases h2
        exact .inl ⟨a, c, rfl, hs, rfl⟩
  | turn c =>
    obtain ⟨a, xs, rfl, hs, hall⟩ := Dp.tup_inv hd
    cases hall with
    | cons h1 t =>
      cases t with
      | cons h2 t2 =>
        cases t2
        cases h1
        cases h2
        exact .inr (.inl ⟨a, c, rfl, hs, rfl⟩)
  | rep n hp =>
    obtain ⟨a, xs, rfl, hs, hall⟩ := Dp.tup_inv hd
    cases hall with
    | cons h1 t =>
      cases t with
      | cons h2 t2 =>
        cases t2 with
        | cons h3 t3 =>
          cases t3
          cases h1
          cases h2
          exact .inr (.inr ⟨a, n, _, _, rfl, hs, ⟨_, h3, hp⟩, rfl⟩)
theorem iv_step {a : Addr} {c : Int} (h : SqT K H a [.str "step", .int c]) : IV K H (.ref a) (.step c) := ⟨_, .tup h (.cons (.str _) (.cons (.int _) .nil)), .step c⟩
theorem iv_turn {a : Addr} {c : Int} (h : SqT K H a [.str "turn", .int c]) : IV K H (.ref a) (.turn c) := ⟨_, .tup h (.cons (.str _) (.cons (.int _) .nil)), .turn c⟩
theorem iv_rep {a : Addr} {n : Int} {y : V} {bb : List Ins} (h : SqT K H a [.str "repeat", .int n, y]) (hp : PV K H y bb) : IV K H (.ref a) (.rep n bb) := by
  obtain ⟨d, hd, hp⟩ := hp
  exact ⟨_, .tup h (.cons (.str _) (.cons (.int _) (.cons hd .nil))), .rep n hp⟩
end
/-! flat instructions: steps and turns alone; they stay while tuples stay -/
def FI (K : PySem.W.Frag) (H : Hp) (x : V) (i : Ins) : Prop := (∃ a c, x = .ref a ∧ SqT K H a [.str "step", .int c] ∧ i = .step c) ∨ (∃ a c, x = .ref a ∧ SqT K H a [.str "turn", .int c] ∧ i = .turn c)
abbrev FIs (K : PySem.W.Frag) (H : Hp) : List V → List Ins → Prop := Paired (FI K H)
section
variable {K : PySem.W.Frag} {H H' : Hp} {v x : V} {b : List Ins} {i : Ins} {xs : List V}
theorem FI.tp (t : Tp H H') (h : FI K H x i) : FI K H' x i := by
  rcases h with ⟨a, c, e, hs, ei⟩ | ⟨a, c, e, hs, ei⟩
  · exact .inl ⟨a, c, e, tp_t t hs, ei⟩
  · exact .inr ⟨a, c, e, tp_t t hs, ei⟩
theorem FI.iv (h : FI K H x i) : IV K H x i := by
  rcases h with ⟨a, c, rfl, hs, rfl⟩ | ⟨a, c, rfl, hs, rfl⟩
  · exact iv_step hs
  · exact iv_turn hs
theorem FIs.tp (t : Tp H H') : ∀ {xs : List V} {b : List Ins}, FIs K H xs b → FIs K H' xs b
  | _, _, .nil => .nil
  | _, _, .cons r q => .cons (r.tp t) (FIs.tp t q)
theorem FIs.ivs : ∀ {xs : List V} {b : List Ins}, FIs K H xs b → IVs K H xs b
  | _, _, .nil => .nil
  | _, _, .cons r q => .cons r.iv (FIs.ivs q)
theorem FIs.snoc : ∀ {xs : List V} {b : List Ins}, FIs K H xs b → FI K H x i → FIs K H (xs ++ [x]) (b ++ [i])
  | _, _, .nil, h => .cons h .nil
  | _, _, .cons r q, h => .cons r (FIs.snoc q h)
theorem FIs.len (h : FIs K H xs b) : xs.length = b.length := Paired.length h
end
def isFlat : Ins → Prop
  | .rep _ _ => False
  | _ => True
def cntOf : Ins → Int
  | .step c => c
  | .turn c => c
  | .rep n _ => n
/-- a body of steps and turns: so many, with counts within reach -/
structure Flat (b : List Ins) (N : Nat) (R : Nat) : Prop where
  len : b.length ≤ N
  flat : ∀ i ∈ b, isFlat i
  cnt : ∀ i ∈ b, (cntOf i).natAbs ≤ R
theorem Flat.dp : ∀ {b : List Ins} {N R : Nat}, Flat b N R → dpP b = 0
  | [], _, _, _ => by unfold dpP; rfl
  | i :: r, N, R, h => by
    have h1 := h.flat i List.mem_cons_self
    have h2 : dpI i = 0 := by cases i <;> first | exact absurd h1 id | (rw [dpI])
    rw [dpP_cons, h2, Flat.dp (b := r) (N := N) (R := R) ⟨by have := h.len; rw [List.length_cons] at this; omega, fun j hj => h.flat j (List.mem_cons_of_mem _ hj), fun j hj => h.cnt j (List.mem_cons_of_mem _ hj)⟩]
    rfl
theorem Flat.w : ∀ {b : List Ins} {N R : Nat}, Flat b N R → R ≤ 2 ^ 100 → WP b
  | [], _, _, _, _ => by rw [WP]; trivial
  | i :: r, N, R, h, hR => by
    have h1 := h.flat i List.mem_cons_self
    have h3 := h.cnt i List.mem_cons_self
    rw [WP_cons]
    refine ⟨?_, Flat.w (b := r) (N := N) (R := R) ⟨by have := h.len; rw [List.length_cons] at this; omega, fun j hj => h.flat j (List.mem_cons_of_mem _ hj), fun j hj => h.cnt j (List.mem_cons_of_mem _ hj)⟩ hR⟩
    cases i with
    | step c => rw [WI]; exact Nat.le_trans h3 hR
    | turn c => rw [WI]; exact Nat.le_trans h3 hR
    | rep n b => exact absurd h1 id
theorem Flat.cn : ∀ {b : List Ins} {N R : Nat}, Flat b N R → cnP b = b.length
  | [], _, _, _ => by unfold cnP; rfl
  | i :: r, N, R, h => by
    have h1 := h.flat i List.mem_cons_self
    have h2 : cnI i = 1 := by cases i <;> first | exact absurd h1 id | (rw [cnI])
    rw [cnP_cons, h2, Flat.cn (b := r) (N := N) (R := R) ⟨by have := h.len; rw [List.length_cons] at this; omega, fun j hj => h.flat j (List.mem_cons_of_mem _ hj), fun j hj => h.cnt j (List.mem_cons_of_mem _ hj)⟩, List.length_cons]
    omega
/-- a program of the laws: depth, counts, how many instructions -/
structure PrOk (b : List Ins) (k N : Nat) : Prop where
  dp : dpP b ≤ k
  w : WP b
  cn : cnP b ≤ N
theorem Flat.ok {b : List Ins} {N R : Nat} (h : Flat b N R) (hR : R ≤ 2 ^ 100) : PrOk b 0 N := ⟨Nat.le_of_eq h.dp, h.w hR, by rw [h.cn]; exact h.len⟩
theorem PrOk.app {b c : List Ins} {k j N M : Nat} (h : PrOk b k N) (h2 : PrOk c j M) : PrOk (b ++ c) (max k j) (N + M) := ⟨by rw [dpP_app]; have := h.dp; have := h2.dp; omega, WP_app _ _ h.w h2.w, by rw [cnP_app]; have := h.cn; have := h2.cn; omega⟩
theorem PrOk.rep {b : List Ins} {k N : Nat} (h : PrOk b k N) (hN : N ≤ 1024) {n : Int} (hn : n.natAbs ≤ 2 ^ 100) : PrOk [.rep n b] (k + 1) (N + 1) := by
  refine ⟨?_, ?_, ?_⟩
  · rw [dpP_cons, dpI, show dpP [] = 0 by unfold dpP; rfl]
    have := h.dp
    omega
  · rw [WP_cons, WI]
    exact ⟨⟨hn, Nat.le_trans (len_cnP b) (Nat.le_trans h.cn hN), h.w⟩, by rw [WP]; trivial⟩
  · rw [cnP_cons, cnI, show cnP [] = 0 by unfold cnP; rfl]
    have := h.cn
    omega
theorem PrOk.up {b : List Ins} {k N k' N' : Nat} (h : PrOk b k N) (a : k ≤ k') (c : N ≤ N') : PrOk b k' N' := ⟨Nat.le_trans h.dp a, h.w, Nat.le_trans h.cn c⟩
def sp_shift_of (K : PySem.W.Frag) (k : Nat) : Sp := fun vs H Q _ => ∃ (v : V) (b : List Ins), vs = [v] ∧ PV K H v b ∧ dpP b < k ∧ k ≤ 3 ∧ WP b ∧ b.length ≤ 1024 ∧ Q (.int (shP b)) H
def sp_executed (K : PySem.W.Frag) (k : Nat) : Sp := fun vs H Q _ => ∃ (v : V) (b : List Ins), vs = [v] ∧ PV K H v b ∧ dpP b < k ∧ k ≤ 3 ∧ WP b ∧ b.length ≤ 1024 ∧ Q (.int (exP b)) H
theorem shP_snoc {b : List Ins} {j : Nat} {i : Ins} (h : b[j]? = some i) : shP (b.take (j + 1)) = shP (b.take j) + shI i := by
  rw [take_snoc h, shP_app, shP_cons, shP_nil, Int.add_zero]
theorem exP_snoc {b : List Ins} {j : Nat} {i : Ins} (h : b[j]? = some i) : exP (b.take (j + 1)) = exP (b.take j) + exI i := by
  rw [take_snoc h, exP_app, exP_cons, exP_nil, Int.add_zero]
theorem sh_lt {b : List Ins} {k : Nat} (h : dpP b < k) (hk : k ≤ 3) (w : WP b) (l : b.length ≤ 1024) : (shP b).natAbs < 2 ^ 331 := by
  have := sh_big 2 b (by omega) w l
  exact Nat.lt_of_le_of_lt this (by decide +kernel)
theorem ex_lt {b : List Ins} {k : Nat} (h : dpP b < k) (hk : k ≤ 3) (w : WP b) (l : b.length ≤ 1024) : (exP b).natAbs < 2 ^ 331 := by
  have := ex_big 2 b (by omega) w l
  exact Nat.lt_of_le_of_lt this (by decide +kernel)
end DR
/-! ### the tokens of programs, and how they are read -/
namespace DR
open PySem PySem.Spec PyProof.Rows L2 TL
/-! how many repeats -/
mutual
def rpI : Ins → Nat
  | .step _ => 0
  | .turn _ => 0
  | .rep _ b => rpP b + 1
def rpP : List Ins → Nat
  | [] => 0
  | i :: r => rpI i + rpP r
end
theorem rpP_nil : rpP [] = 0 := by unfold rpP; rfl
theorem rpP_cons (i : Ins) (r : List Ins) : rpP (i :: r) = rpI i + rpP r := by rw [rpP]
theorem cnP_nil' : cnP [] = 0 := by unfold cnP; rfl
/-! counts as the document bounds them -/
mutual
def CtI : Ins → Prop
  | .step c => c.natAbs ≤ 10 ^ 30
  | .turn c => c.natAbs ≤ 10 ^ 30
  | .rep n b => 0 ≤ n ∧ n ≤ 10 ^ 30 ∧ CtP b
def CtP : List Ins → Prop
  | [] => True
  | i :: r => CtI i ∧ CtP r
end
theorem CtP_cons (i : Ins) (r : List Ins) : CtP (i :: r) = (CtI i ∧ CtP r) := by rw [CtP]
/-! no blank in a token, none empty, few signs -/
/-! ### the reader -/
structure RS where
  p : Nat
  n : Nat
  r : Nat
inductive Rd (α : Type) where
  | bad (k : Nat)
  | ok (a : α) (s : RS)
def rdW (T : List Str) (k : Nat) (s : RS) : Rd Str := match T[s.p]? with
  | none => .bad s.p
  | some w => if ¬ (w = "step" ∨ w = "turn" ∨ w = "repeat") ∨ s.n = 100 then .bad s.p else
      if w = "repeat" ∧ (k = 0 ∨ s.r = 5) then .bad s.p else .ok w ⟨s.p + 1, s.n + 1, if w = "repeat" then s.r + 1 else s.r⟩
def rdC (T : List Str) (least : Int) (s : RS) : Rd Int := match T[s.p]? with
  | none => .bad s.p
  | some t => match ctOf t with
    | none => .bad s.p
    | some c => if c < least then .bad s.p else .ok c ⟨s.p + 1, s.n, s.r⟩
def rdB (T : List Str) (s : RS) : Rd Unit := match T[s.p]? with
  | none => .bad s.p
  | some t => if t = "[" then .ok () ⟨s.p + 1, s.n, s.r⟩ else .bad s.p
def rdL (T : List Str) (one : RS → Rd Ins) : Nat → RS → Rd (List Ins)
  | 0, s => .bad s.p
  | f + 1, s => match T[s.p]? with
    | none => .bad s.p
    | some t => if t = "]" then .ok [] ⟨s.p + 1, s.n, s.r⟩ else match one s with
      | .bad q => .bad q
      | .ok i s1 => match rdL T one f s1 with
        | .bad q => .bad q
        | .ok is s2 => .ok (i :: is) s2
def rdO (T : List Str) (k : Nat) (inner : RS → Rd (List Ins)) (s : RS) : Rd Ins := match rdW T k s with
  | .bad q => .bad q
  | .ok w s1 => if w ≠ "repeat" then (match rdC T (-(10 ^ 30)) s1 with
      | .bad q => .bad q
      | .ok c s2 => .ok (if w = "step" then .step c else .turn c) s2) else (match rdC T 0 s1 with
      | .bad q => .bad q
      | .ok c s2 => match rdB T s2 with
        | .bad q => .bad q
        | .ok _ s3 => match inner s3 with
          | .bad q => .bad q
          | .ok b s4 => .ok (.rep c b) s4)
def rdI (T : List Str) : Nat → RS → Rd Ins
  | 0 => rdO T 0 fun s => .bad s.p
  | k + 1 => rdO T (k + 1) fun s => rdL T (rdI T k) (T.length + 1) s
/-! each reading goes on, within the tokens -/
theorem dpP_nil' : dpP [] = 0 := by unfold dpP; rfl
/-! ### what was written is read -/
/-! ### what reading leaves in the heap: tuples, and lists that were not there before -/
mutual
inductive NwI (K : PySem.W.Frag) (H0 H : Hp) : V → Ins → Prop
  | step {a : Addr} {c : Int} : SqT K H a [.str "step", .int c] → NwI K H0 H (.ref a) (.step c)
  | turn {a : Addr} {c : Int} : SqT K H a [.str "turn", .int c] → NwI K H0 H (.ref a) (.turn c)
  | rep {a L : Addr} {n : Int} {xs : List V} {b : List Ins} : SqT K H a [.str "repeat", .int n, .ref L] → H0 L = none → H L = some (.lst xs) → NwP K H0 H xs b → NwI K H0 H (.ref a) (.rep n b)
inductive NwP (K : PySem.W.Frag) (H0 H : Hp) : List V → List Ins → Prop
  | nil : NwP K H0 H [] []
  | cons {x : V} {xs : List V} {i : Ins} {b : List Ins} : NwI K H0 H x i → NwP K H0 H xs b → NwP K H0 H (x :: xs) (i :: b)
end
section
variable {K : PySem.W.Frag} {H0 H H' : Hp}
mutual
theorem NwI.stay (ht : ∀ a us, SqT K H a us → SqT K H' a us) (hl : ∀ L xs, H0 L = none → H L = some (.lst xs) → H' L = some (.lst xs)) : ∀ {x : V} {i : Ins}, NwI K H0 H x i → NwI K H0 H' x i
  | _, _, .step h => .step (ht _ _ h)
  | _, _, .turn h => .turn (ht _ _ h)
  | _, _, .rep h n e q => .rep (ht _ _ h) n (hl _ _ n e) (NwP.stay ht hl q)
theorem NwP.stay (ht : ∀ a us, SqT K H a us → SqT K H' a us) (hl : ∀ L xs, H0 L = none → H L = some (.lst xs) → H' L = some (.lst xs)) : ∀ {xs : List V} {b : List Ins}, NwP K H0 H xs b → NwP K H0 H' xs b
  | _, _, .nil => .nil
  | _, _, .cons h t => .cons (NwI.stay ht hl h) (NwP.stay ht hl t)
end
theorem NwP.same (e : Same H H') {xs : List V} {b : List Ins} (h : NwP K H0 H xs b) : NwP K H0 H' xs b := h.stay (fun _ _ g => same_t e g) fun _ _ _ g => e _ _ g
theorem NwI.same (e : Same H H') {x : V} {i : Ins} (h : NwI K H0 H x i) : NwI K H0 H' x i := h.stay (fun _ _ g => same_t e g) fun _ _ _ g => e _ _ g
mutual
theorem NwI.iv : ∀ {x : V} {i : Ins}, NwI K H0 H x i → IV K H x i
  | _, _, .step h => iv_step h
  | _, _, .turn h => iv_turn h
  | _, _, .rep h _ e q => iv_rep h (pv_list (SqL.of e) (NwP.ivs q))
theorem NwP.ivs : ∀ {xs : List V} {b : List Ins}, NwP K H0 H xs b → IVs K H xs b
  | _, _, .nil => .nil
  | _, _, .cons h t => .cons (NwI.iv h) (NwP.ivs t)
end
mutual
theorem NwI.less {G : Hp} (hg : ∀ a, H0 a = none → G a = none) : ∀ {x : V} {i : Ins}, NwI K H0 H x i → NwI K G H x i
  | _, _, .step h => .step h
  | _, _, .turn h => .turn h
  | _, _, .rep h n e q => .rep h (hg _ n) e (NwP.less hg q)
theorem NwP.less {G : Hp} (hg : ∀ a, H0 a = none → G a = none) : ∀ {xs : List V} {b : List Ins}, NwP K H0 H xs b → NwP K G H xs b
  | _, _, .nil => .nil
  | _, _, .cons h t => .cons (NwI.less hg h) (NwP.less hg t)
end
theorem NwP.app : ∀ {xs ys : List V} {b c : List Ins}, NwP K H0 H xs b → NwP K H0 H ys c → NwP K H0 H (xs ++ ys) (b ++ c)
  | _, _, _, _, .nil, h => h
  | _, _, _, _, .cons r q, h => .cons r (NwP.app q h)
theorem NwP.len {xs : List V} {b : List Ins} (h : NwP K H0 H xs b) : xs.length = b.length := h.ivs.len
end
end DR
namespace DR
open PySem PySem.Spec PyProof.Rows L2
/-! ### max of a dict whose keys are ints -/
/-! ### an entry of a dict of ints taken out, or written -/
/-- a dict of residues that are not 0 -/
structure Rsd (p : Int) (m : Pol) : Prop where
  nd : (m.map (·.1)).Nodup
  vl : ∀ y ∈ m.map (·.1), 0 < cf m y ∧ cf m y < p
theorem Rsd.bd {p : Int} {m : Pol} (h : Rsd p m) (hp : 0 < p) (e : Int) : 0 ≤ cf m e ∧ cf m e < p := by
  by_cases z : e ∈ m.map (·.1)
  · have := h.vl e z
    omega
  · rw [cf_out z]
    omega
/-! ### inverses -/
end DR
namespace DR
open PySem PySem.Spec PyProof.Rows L2
/-! ### a dict of the terms of a polynomial that pass a test -/
/-! ### name = {k: v for ..} -/
/-! ### long division -/
theorem filter_cf (b : Int → Bool) : ∀ (f : Pol) (e : Int), cf (f.filter fun t => b t.1) e = if b e = true then cf f e else 0
  | [], e => by
    show (0 : Int) = _
    split <;> rfl
  | t :: r, e => by
    have ih := filter_cf b r e
    by_cases h : b t.1 = true
    · rw [List.filter_cons_of_pos (by exact h), cf_cons, cf_cons, ih]
      by_cases q : t.1 = e
      · rw [if_pos q]
        rw [q] at h
        rw [if_pos h, if_pos h]
      · rw [if_neg q]
        split <;> omega
    · rw [List.filter_cons_of_neg (by exact h), ih, cf_cons]
      by_cases q : b e = true
      · rw [if_pos q, if_pos q, if_neg (fun z => h (by rw [z]; exact q)), Int.zero_add]
      · rw [if_neg q, if_neg q]
/-- the two dicts and the quotient while dividing -/
structure DvI (p deg : Int) (f g A R Q : Pol) (m : Nat) : Prop where
  ra : Rsd p A
  rr : Rsd p R
  nq : (Q.map (·.1)).Nodup
  ka : ∀ y ∈ A.map (·.1), deg ≤ y ∧ y < deg + m
  kr : ∀ y ∈ R.map (·.1), y < deg
  kq : ∀ y ∈ Q.map (·.1), (m : Int) ≤ y
  eq : ∀ e, (cf A e + cf R e + cf (prods Q g) e - cf f e) % p = 0
/-- within a turn -/
structure DvJ (p deg d c : Int) (A0 R0 A R : Pol) (h : Pol) : Prop where
  ra : Rsd p A
  rr : Rsd p R
  ka : ∀ y ∈ A.map (·.1), deg ≤ y ∧ y ≤ deg + d
  kr : ∀ y ∈ R.map (·.1), y < deg
  eq : ∀ e, (cf A e + cf R e - (cf A0 e + cf R0 e) + cf (times (d, c) h) e) % p = 0
theorem Nf.rsd {p : Int} {f : Pol} {F : Int → Int} (h : Nf p f F) (b : Int → Bool) : Rsd p (f.filter fun t => b t.1) := by
  have hs : (f.filter fun t => b t.1).Sublist f := List.filter_sublist
  have ha : (f.filter fun t => b t.1).Pairwise fun x y => x.1 < y.1 := h.asc.sublist hs
  refine ⟨?_, fun y hy => ?_⟩
  · rw [List.Nodup, List.pairwise_map]
    exact ha.imp fun z => by omega
  · obtain ⟨t, ht, rfl⟩ := List.mem_map.mp hy
    rw [cf_mem ha t ht]
    have := h.rng t (hs.mem ht)
    omega
theorem DvI.start {p deg : Int} {f g : Pol} {F : Int → Int} {N : Nat} (h : Nf p f F) (hN : ∀ t ∈ f, t.1 < deg + N) : DvI p deg f g (f.filter fun t => decide (t.1 ≥ deg)) (f.filter fun t => decide (t.1 < deg)) [] N := by
  refine ⟨h.rsd fun x => decide (x ≥ deg), h.rsd fun x => decide (x < deg), List.nodup_nil, fun y hy => ?_, fun y hy => ?_, fun y hy => absurd hy List.not_mem_nil, fun e => ?_⟩
  · obtain ⟨t, ht, rfl⟩ := List.mem_map.mp hy
    obtain ⟨h1, h2⟩ := List.mem_filter.mp ht
    exact ⟨of_decide_eq_true h2, hN t h1⟩
  · obtain ⟨t, ht, rfl⟩ := List.mem_map.mp hy
    exact of_decide_eq_true (List.mem_filter.mp ht).2
  · rw [filter_cf (fun x => decide (x ≥ deg)), filter_cf (fun x => decide (x < deg))]
    have e0 : cf (prods [] g) e = 0 := rfl
    rw [e0]
    by_cases z : e ≥ deg
    · rw [if_pos (decide_eq_true z), if_neg (by rw [decide_eq_false (by omega)]; decide)]
      rw [show cf f e + 0 + 0 - cf f e = 0 by omega]
      exact Int.zero_emod _
    · rw [if_neg (by rw [decide_eq_false z]; decide), if_pos (decide_eq_true (by omega))]
      rw [show 0 + cf f e + 0 - cf f e = 0 by omega]
      exact Int.zero_emod _
theorem DvJ.start {p deg d c : Int} {f g A R Q : Pol} {m : Nat} (h : DvI p deg f g A R Q m) (htop : ∀ y ∈ A.map (·.1), y ≤ deg + d) : DvJ p deg d c A R A R [] := by
  refine ⟨h.ra, h.rr, fun y hy => ⟨(h.ka y hy).1, htop y hy⟩, h.kr, fun e => ?_⟩
  have e0 : cf (times (d, c) []) e = 0 := rfl
  rw [e0, show cf A e + cf R e - (cf A e + cf R e) + 0 = 0 by omega]
  exact Int.zero_emod _
theorem z_add {p a b : Int} (h : a % p = 0) (k : b % p = 0) : (a + b) % p = 0 := Int.emod_eq_zero_of_dvd (Int.dvd_add (Int.dvd_of_emod_eq_zero h) (Int.dvd_of_emod_eq_zero k))
theorem z_sub {p a b : Int} (h : a % p = 0) (k : b % p = 0) : (a - b) % p = 0 := Int.emod_eq_zero_of_dvd (Int.dvd_sub (Int.dvd_of_emod_eq_zero h) (Int.dvd_of_emod_eq_zero k))
theorem TPol.same {K : PySem.W.Frag} {H H' : Hp} {v : V} {f : Pol} (s : Same H H') (h : TPol K H v f) : TPol K H' v f := by
  obtain ⟨a, xs, rfl, h1, h2⟩ := h
  exact ⟨a, xs, rfl, same_t s h1, Prs.tp (Same.tp s) h2⟩
end DR
namespace DR
open PySem PySem.Spec PyProof.Rows L2
/-! ### products that are others -/
theorem eq_of_sub {a b p : Int} (h : (a - b) % p = 0) : a % p = b % p := Int.emod_eq_emod_iff_emod_sub_eq_zero.mpr h
theorem sub_of_eq {a b p : Int} (h : a % p = b % p) : (a - b) % p = 0 := Int.emod_eq_emod_iff_emod_sub_eq_zero.mp h
theorem prime_cut {p : Int} (hp : p ∈ primes) {a x : Int} (h0 : 0 < a) (h9 : a < p) (h : a * x % p = 0) : x % p = 0 := by
  have hr := prime_rng p hp
  by_cases z : x % p = 0
  · exact z
  · have m0 := Int.emod_nonneg x (show p ≠ 0 by omega)
    have m1 := Int.emod_lt_of_pos x (show 0 < p by omega)
    refine absurd ?_ (prime_nz hp h0 h9 (show 0 < x % p by omega) m1)
    rw [Int.mul_comm, mul_emod_l, Int.mul_comm]
    exact h
theorem conv_gone {p : Int} {D : Int → Int} {E : Int} : ∀ (g : Pol), (∀ t ∈ g, D (E - t.1) % p = 0) → conv g D E % p = 0
  | [], _ => Int.zero_emod _
  | t :: r, h => by
    show (t.2 * D (E - t.1) + conv r D E) % p = 0
    refine z_add ?_ (conv_gone r fun u hu => h u (List.mem_cons_of_mem _ hu))
    rw [Int.mul_emod, h t List.mem_cons_self, Int.mul_zero, Int.zero_emod]
/-- what has no top has nothing -/
theorem top_zero {p : Int} (hp : p ∈ primes) {g0 : Pol} {deg lead : Int} (ng : Nf p (g0 ++ [(deg, lead)]) (cf (g0 ++ [(deg, lead)]))) {D : Int → Int} {B lo : Int} (hB : ∀ e, B ≤ e → D e % p = 0) (hz : ∀ e, lo ≤ e → conv (g0 ++ [(deg, lead)]) D (e + deg) % p = 0) : ∀ e, lo ≤ e → D e % p = 0 := by
  have glow : ∀ t ∈ g0, t.1 < deg := fun t ht => (List.pairwise_append.mp ng.asc).2.2 t ht (deg, lead) (by simp)
  have gl := ng.rng (deg, lead) (by simp)
  have key : ∀ n : Nat, ∀ e, lo ≤ e → B - n ≤ e → D e % p = 0 := by
    intro n
    induction n with
    | zero => exact fun e _ h => hB e (by omega)
    | succ n ih =>
      intro e h1 h2
      by_cases z : B - n ≤ e
      · exact ih e h1 z
      · have hc := hz e h1
        rw [conv_append] at hc
        have h0 := conv_gone (p := p) (D := D) (E := e + deg) g0 fun t ht => by
          have := glow t ht
          exact ih _ (by omega) (by omega)
        have hc2 := z_sub hc h0
        rw [show conv g0 D (e + deg) + conv [(deg, lead)] D (e + deg) - conv g0 D (e + deg) = conv [(deg, lead)] D (e + deg) by omega] at hc2
        have e3 : conv [(deg, lead)] D (e + deg) = lead * D e := by
          show lead * D (e + deg - deg) + 0 = _
          rw [show e + deg - deg = e by omega, Int.add_zero]
        rw [e3] at hc2
        exact prime_cut hp gl.1 gl.2 hc2
  intro e he
  exact key (B - e).toNat e he (by omega)
theorem pol_top (f : Pol) : ∃ B : Int, ∀ e, B ≤ e → cf f e = 0 := by
  induction f with
  | nil => exact ⟨0, fun _ _ => rfl⟩
  | cons t r ih =>
    obtain ⟨B, hB⟩ := ih
    refine ⟨max B (t.1 + 1), fun e he => ?_⟩
    rw [cf_cons, if_neg (by omega), hB e (by omega)]
    rfl
theorem ne_snoc {g : Pol} (h : g ≠ []) : ∃ g0 deg lead, g = g0 ++ [(deg, lead)] := ⟨g.dropLast, (g.getLast h).1, (g.getLast h).2, (List.dropLast_concat_getLast h).symm⟩
theorem conv_sub (G G' : Int → Int) (f : Pol) (e : Int) : conv f (fun x => G x - G' x) e = conv f G e - conv f G' e := by
  have h := conv_add G (fun x => -1 * G' x) f e
  rw [conv_smul] at h
  rw [show conv f G e - conv f G' e = conv f G e + -1 * conv f G' e by omega, ← h]
  exact conv_congr (fun x => by omega) f e
/-- cancelling -/
theorem conv_cancel {p : Int} (hp : p ∈ primes) {g q f : Pol} (ng : Nf p g (cf g)) (hg : g ≠ []) (h : ∀ e, conv q (cf g) e % p = conv f (cf g) e % p) (e : Int) : cf q e % p = cf f e % p := by
  obtain ⟨g0, deg, lead, rfl⟩ := ne_snoc hg
  obtain ⟨B1, h1⟩ := pol_top q
  obtain ⟨B2, h2⟩ := pol_top f
  refine eq_of_sub (top_zero hp ng (D := fun x => cf q x - cf f x) (B := max B1 B2) (lo := e) (fun x hx => ?_) (fun x _ => ?_) e (Int.le_refl _))
  · show (cf q x - cf f x) % p = 0
    rw [h1 x (by omega), h2 x (by omega)]
    exact Int.zero_emod _
  · rw [conv_sub, conv_comm q, conv_comm f]
    exact sub_of_eq (h _)
/-- g divides f -/
def Dv (p : Int) (g f : Pol) : Prop := ∃ h, Nf p h (cf h) ∧ ∀ e, conv h (cf g) e % p = cf f e % p
theorem conv_mv (n : Int) (q g : Pol) (e : Int) : conv q (cf (moved n g)) e = conv q (cf g) (e - n) := by
  rw [conv_comm, conv_moved, conv_comm]
theorem Nf.mv {p : Int} {g : Pol} (h : Nf p g (cf g)) (n : Int) : Nf p (DR.moved n g) (cf (DR.moved n g)) := (h.moved n).to fun e => by rw [cf_moved]
theorem Dv.mv {p : Int} {g f : Pol} (n m : Int) (h : Dv p g f) : Dv p (moved n g) (moved m f) := by
  obtain ⟨q, nq, hq⟩ := h
  refine ⟨moved (m - n) q, nq.mv _, fun e => ?_⟩
  rw [conv_moved, conv_mv, cf_moved, hq, show e - (m - n) - n = e - m by omega]
end DR
namespace DR
open PySem PySem.Spec PyProof.Rows L2
theorem pol_bot (f : Pol) : ∃ B : Int, ∀ e, e ≤ B → cf f e = 0 := by
  induction f with
  | nil => exact ⟨0, fun _ _ => rfl⟩
  | cons t r ih =>
    obtain ⟨B, hB⟩ := ih
    refine ⟨min B (t.1 - 1), fun e he => ?_⟩
    rw [cf_cons, if_neg (by omega), hB e (by omega)]
    rfl
/-- every sum has its normal form -/
theorem nf_ex {p : Int} (hp : 0 < p) (m : Pol) : ∃ g, Nf p g (cf m) := by
  obtain ⟨B, hB⟩ := pol_top m
  obtain ⟨L, hL⟩ := pol_bot m
  have asc : ((List.range (B - L).toNat).map fun i : Nat => L + (i : Int)).Pairwise (· < ·) := by
    rw [List.pairwise_map]
    exact List.pairwise_lt_range.imp fun h => by omega
  refine ⟨_, kept_nf hp (ys := (List.range (B - L).toNat).map fun i : Nat => L + (i : Int)) (asc.imp fun h => by omega) (asc.imp fun h => by omega) fun e he => ?_⟩
  by_cases h1 : e ≤ L
  · rw [hL e h1]; exact Int.zero_emod _
  · by_cases h2 : B ≤ e
    · rw [hB e h2]; exact Int.zero_emod _
    · refine absurd (List.mem_map.mpr ⟨(e - L).toNat, List.mem_range.mpr (by omega), ?_⟩) he
      show L + ((e - L).toNat : Int) = e
      omega
theorem gap_conv {p : Int} {n : Int} {h g : Pol} (ng : Nf p g (fun e => cf [(0, 1)] e - cf [(n, 1)] e)) (e : Int) : conv h (cf g) e % p = (cf h e - cf h (e - n)) % p := by
  rw [conv_mod (G' := fun x => cf [(0, 1)] x - cf [(n, 1)] x) (fun x => by rw [ng.cof, Int.emod_emod]) h e, conv_sub, conv_comm [(0, 1)], conv_comm [(n, 1)]]
  show (1 * cf h (e - 0) + 0 - (1 * cf h (e - n) + 0)) % p = _
  rw [Int.sub_zero, Int.one_mul, Int.one_mul, Int.add_zero, Int.add_zero]
theorem gap_ne {p n : Int} {g : Pol} (hp : 2 ≤ p) (hn : n ≠ 0) (ng : Nf p g (fun e => cf [(0, 1)] e - cf [(n, 1)] e)) : g ≠ [] := fun z => by
  have h := ng.cof 0
  have e1 : cf [(0, 1)] (0 : Int) = 1 := rfl
  have e2 : cf [(n, 1)] (0 : Int) = 0 := cf_none _ _ fun t ht => by rw [List.mem_singleton.mp ht]; exact hn
  rw [z, e1, e2] at h
  rw [show (1 : Int) - 0 = 1 from rfl, Int.emod_eq_of_lt (by decide) (by omega)] at h
  cases h
/-! ### a word of one's own where a statement, a value or a test ends -/
section
variable {X : Cx}
def tCut (t : TS) : TS := fun D σ H => ∃ M : L2.St → Hp → Prop, t { D with nx := M } σ H ∧ ∀ σ' H', M σ' H' → D.nx σ' H'
theorem ps_cut {st : Stmt} {t : TS} (h : PS X st t) : PS X st (tCut t) := by
  refine ⟨fun pins s σ H D I q => ?_⟩
  obtain ⟨M, h1, h2⟩ := q
  refine thn (h.run pins s σ H _ I h1) fun f s' r => ?_
  cases f with
  | next =>
    obtain ⟨σ', H', I', m⟩ := r
    exact ⟨σ', H', I', h2 σ' H' m⟩
  | brk => exact r
  | cont => exact r
  | ret u => exact r
end
end DR
namespace L2
open PySem PySem.Spec PyProof.Rows
end L2
namespace DR
open PySem PySem.Spec PyProof.Rows L2
/-- u is made of f and g -/
def In (p : Int) (f g u : Pol) : Prop := ∃ a b : Pol, ∀ e, (conv a (cf f) e + conv b (cf g) e) % p = cf u e % p
section
variable {p : Int} {f g u v w : Pol}
theorem conv_one (F : Int → Int) (n e : Int) : conv [(n, 1)] F e = F (e - n) := by
  show 1 * F (e - n) + 0 = _
  rw [Int.one_mul, Int.add_zero]
theorem conv_nil (F : Int → Int) (e : Int) : conv [] F e = 0 := rfl
theorem conv_scl (k : Int) (G : Int → Int) : ∀ (f : Pol) (e : Int), conv (f.map fun t => (t.1, t.2 * k)) G e = conv f G e * k
  | [], e => by show (0 : Int) = 0 * k; rw [Int.zero_mul]
  | t :: r, e => by
    show t.2 * k * G (e - t.1) + conv _ G e = (t.2 * G (e - t.1) + conv r G e) * k
    rw [conv_scl k G r e, Int.add_mul, Int.mul_right_comm]
theorem In.to (h : In p f g u) (k : ∀ e, cf u e % p = cf v e % p) : In p f g v := by
  obtain ⟨a, b, h⟩ := h
  exact ⟨a, b, fun e => (h e).trans (k e)⟩
theorem In.l : In p f g f := ⟨[(0, 1)], [], fun e => by rw [conv_one, conv_nil, Int.add_zero, Int.sub_zero]⟩
theorem In.r : In p f g g := ⟨[], [(0, 1)], fun e => by rw [conv_one, conv_nil, Int.zero_add, Int.sub_zero]⟩
theorem conv_two (a a1 b1 : Pol) (h : ∀ e, (conv a1 (cf f) e + conv b1 (cf g) e) % p = cf u e % p) (e : Int) : conv a (cf u) e % p = (conv (prods a a1) (cf f) e + conv (prods a b1) (cf g) e) % p := by
  rw [← conv_mod h a e, conv_add, conv_assoc, conv_assoc]
theorem In.trans (h1 : In p f g u) (h2 : In p f g v) (h3 : In p u v w) : In p f g w := by
  obtain ⟨a1, b1, h1⟩ := h1
  obtain ⟨a2, b2, h2⟩ := h2
  obtain ⟨a, b, h3⟩ := h3
  refine ⟨prods a a1 ++ prods b a2, prods a b1 ++ prods b b2, fun e => ?_⟩
  rw [← h3 e, Int.add_emod (conv a (cf u) e), conv_two a a1 b1 h1 e, conv_two b a2 b2 h2 e, ← Int.add_emod, conv_append, conv_append]
  congr 1
  omega
theorem In.mul (h : In p f g u) (c : Pol) {r : Pol} (hr : ∀ e, cf r e % p = conv c (cf u) e % p) : In p f g r := by
  obtain ⟨a1, b1, h⟩ := h
  exact ⟨prods c a1, prods c b1, fun e => by rw [hr, conv_two c a1 b1 h e]⟩
theorem In.sub (h : In p f g u) (h2 : In p f g v) {r : Pol} (hr : ∀ e, cf r e % p = (cf u e - cf v e) % p) : In p f g r := by
  obtain ⟨a1, b1, h⟩ := h
  obtain ⟨a2, b2, h2⟩ := h2
  refine ⟨a1 ++ a2.map fun t => (t.1, t.2 * -1), b1 ++ b2.map fun t => (t.1, t.2 * -1), fun e => ?_⟩
  rw [hr, Int.sub_emod (cf u e), ← h, ← h2, ← Int.sub_emod, conv_append, conv_append, conv_scl, conv_scl]
  congr 1
  omega
theorem In.mv (h : In p f g u) (n : Int) : In p f g (moved n u) := h.mul [(n, 1)] fun e => by rw [conv_one, cf_moved]
theorem In.swap (h : In p f g u) : In p g f u := by
  obtain ⟨a, b, h⟩ := h
  exact ⟨b, a, fun e => by rw [Int.add_comm]; exact h e⟩
theorem In.dv (hp : 0 < p) (h : In p f [] u) : Dv p f u := by
  obtain ⟨a, b, h⟩ := h
  obtain ⟨a', na⟩ := nf_ex hp a
  refine ⟨a', na.self, fun e => ?_⟩
  rw [← h e, conv_fst (f' := a) (fun x => by rw [na.cof, Int.emod_emod]) f e]
  have : conv b (cf []) e = 0 := (conv_congr (G' := fun _ => 0) (fun _ => rfl) b e).trans (conv_zero b e)
  rw [this, Int.add_zero]
theorem In.one (h : In p f [] u) : In p f g u := by
  obtain ⟨a, b, h⟩ := h
  refine ⟨a, [], fun e => ?_⟩
  rw [← h e, conv_nil]
  have : conv b (cf []) e = 0 := (conv_congr (G' := fun _ => 0) (fun _ => rfl) b e).trans (conv_zero b e)
  rw [this]
end
/-- zero, or from exponent 0 and with last coefficient 1 -/
structure Gd (p : Int) (d : Pol) : Prop where
  nf : Nf p d (cf d)
  nz : d = [] ∨ ((∃ l d1, d = (0, l) :: d1) ∧ ∃ d0 deg, d = d0 ++ [(deg, 1)])
theorem nf_zero {p : Int} {d : Pol} {F : Int → Int} (h : Nf p d F) (z : ∀ e, F e % p = 0) : d = [] := h.uniq (F' := fun _ => 0) (g' := []) ⟨List.Pairwise.nil, fun t ht => absurd ht List.not_mem_nil, fun e => (Int.zero_emod _).symm⟩ fun e => by rw [z]; exact (Int.zero_emod _).symm
theorem asc_last {f0 : Pol} {t : Int × Int} (h : (f0 ++ [t]).Pairwise fun x y => x.1 < y.1) : ∀ s ∈ f0 ++ [t], s.1 ≤ t.1 := fun s hs => by
  rcases List.mem_append.mp hs with h1 | h1
  · exact Int.le_of_lt ((List.pairwise_append.mp h).2.2 s h1 t (by simp))
  · rw [List.mem_singleton.mp h1]; exact Int.le_refl _
/-- the greatest exponents' term of a product -/
theorem conv_great {p : Int} {r s : Pol} {t u : Int × Int} (h : (r ++ [t]).Pairwise fun x y => x.1 < y.1) (h' : (s ++ [u]).Pairwise fun x y => x.1 < y.1) : conv (r ++ [t]) (cf (s ++ [u])) (t.1 + u.1) % p = t.2 * u.2 % p := by
  rw [conv_append]
  have h0 := conv_gone (p := p) (D := cf (s ++ [u])) (E := t.1 + u.1) r fun x hx => by
    have l1 := (List.pairwise_append.mp h).2.2 x hx t (by simp)
    rw [cf_none _ _ fun y hy => by have := asc_last h' y hy; omega]
    exact Int.zero_emod _
  rw [Int.add_emod, h0, Int.zero_add, Int.emod_emod]
  show (t.2 * cf (s ++ [u]) (t.1 + u.1 - t.1) + 0) % p = _
  rw [show t.1 + u.1 - t.1 = u.1 by omega, Int.add_zero, cf_mem h' u (by simp)]
theorem dv_ends {p : Int} (hp : p ∈ primes) {x d d' : Pol} (nx : Nf p x (cf x)) (nd : Nf p d (cf d)) (nd' : Nf p d' (cf d')) (hd : d ≠ []) (h : ∀ e, conv x (cf d') e % p = cf d e % p) {l l' : Int} {d1 d1' : Pol} (a : d = (0, l) :: d1) (a' : d' = (0, l') :: d1') {d0 d0' : Pol} {deg deg' c c' : Int} (b : d = d0 ++ [(deg, c)]) (b' : d' = d0' ++ [(deg', c')]) :
    ∃ x0 m k, x = x0 ++ [(m, k)] ∧ (∀ t ∈ x, 0 ≤ t.1) ∧ m + deg' ≤ deg := by
  have hx : x ≠ [] := fun z => by
    refine hd (nf_zero nd fun e => ?_)
    rw [← h e, z]
    exact Int.zero_emod _
  obtain ⟨x0, m, k, hx0⟩ := ne_snoc hx
  refine ⟨x0, m, k, hx0, fun s hs => ?_, ?_⟩
  · obtain ⟨t, xs, rfl⟩ := List.exists_cons_of_ne_nil hx
    have hle := asc_le nx.asc hs
    have h1 := h (t.1 + 0)
    rw [a'] at h1 nd'
    have e1 : conv (t :: xs) (cf ((0, l') :: d1')) (t.1 + 0) = t.2 * l' := conv_least nx.asc nd'.asc
    rw [e1, Int.add_zero] at h1
    have h3 := nx.rng t List.mem_cons_self
    have h4 := nd'.rng (0, l') List.mem_cons_self
    have h5 := prime_nz hp h3.1 h3.2 h4.1 h4.2
    by_cases z : cf d t.1 = 0
    · rw [z, Int.zero_emod] at h1
      exact absurd h1 h5
    · obtain ⟨y, hy, e⟩ := cf_ne z
      rw [a] at hy nd
      have := asc_le nd.asc hy
      have : (0 : Int) ≤ y.1 := this
      omega
  · subst hx0
    have h1 := h (m + deg')
    rw [b'] at h1 nd'
    have e1 : conv (x0 ++ [(m, k)]) (cf (d0' ++ [(deg', c')])) (m + deg') % p = k * c' % p := conv_great nx.asc nd'.asc
    rw [e1] at h1
    have h3 := nx.rng (m, k) (by simp)
    have h4 := nd'.rng (deg', c') (by simp)
    have h5 := prime_nz hp h3.1 h3.2 h4.1 h4.2
    by_cases z : cf d (m + deg') = 0
    · rw [z, Int.zero_emod] at h1
      exact absurd h1 h5
    · obtain ⟨y, hy, e⟩ := cf_ne z
      rw [b] at hy nd
      have := asc_last nd.asc y hy
      have : y.1 ≤ deg := this
      omega
theorem gd_uniq {p : Int} (hp : p ∈ primes) {d d' : Pol} (g : Gd p d) (g' : Gd p d') (h : Dv p d d') (h' : Dv p d' d) : d = d' := by
  have hpr := prime_rng p hp
  obtain ⟨x, nx, hx⟩ := h'
  obtain ⟨y, ny, hy⟩ := h
  rcases g.nz with z | ⟨⟨l, d1, a⟩, d0, deg, b⟩
  · subst z
    refine (nf_zero g'.nf fun e => ?_).symm
    rw [← hy e]
    have : conv y (cf []) e = 0 := (conv_congr (G' := fun _ => 0) (fun _ => rfl) y e).trans (conv_zero y e)
    rw [this]
    exact Int.zero_emod _
  rcases g'.nz with z | ⟨⟨l', d1', a'⟩, d0', deg', b'⟩
  · subst z
    refine nf_zero g.nf fun e => ?_
    rw [← hx e]
    have : conv x (cf []) e = 0 := (conv_congr (G' := fun _ => 0) (fun _ => rfl) x e).trans (conv_zero x e)
    rw [this]
    exact Int.zero_emod _
  have hd : d ≠ [] := fun z => by rw [z] at a; cases a
  have hd' : d' ≠ [] := fun z => by rw [z] at a'; cases a'
  obtain ⟨x0, m, k, ex, x1, x2⟩ := dv_ends hp nx g.nf g'.nf hd hx a a' b b'
  obtain ⟨y0, m', k', ey, y1, y2⟩ := dv_ends hp ny g'.nf g.nf hd' hy a' a b' b
  have m0 := x1 (m, k) (by rw [ex]; simp)
  have m0' := y1 (m', k') (by rw [ey]; simp)
  have m0 : 0 ≤ m := m0
  have m0' : 0 ≤ m' := m0'
  have hm : m = 0 := by omega
  have hx0 : x0 = [] := by
    cases x0 with
    | nil => rfl
    | cons t xs =>
      have h1 := x1 t (by rw [ex]; simp)
      have h2 := nx.asc
      rw [ex] at h2
      have h3 := (List.pairwise_append.mp h2).2.2 t List.mem_cons_self (m, k) (by simp)
      have h3 : t.1 < m := h3
      omega
  rw [hx0, hm] at ex
  have ex : x = [(0, k)] := ex
  have hk := nx.rng (0, k) (by rw [ex]; simp)
  have hdeg : deg = deg' := by omega
  have hk1 : k = 1 := by
    have h1 := hx deg
    rw [ex] at h1
    have e1 : conv [(0, k)] (cf d') deg = k * 1 := by
      show k * cf d' (deg - 0) + 0 = _
      have hn := g'.nf.asc
      rw [b'] at hn
      rw [Int.sub_zero, Int.add_zero, hdeg, b', cf_mem hn (deg', 1) (by simp)]
    have e2 : cf d deg = 1 := by
      have hn := g.nf.asc
      rw [b] at hn
      rw [b]
      exact cf_mem hn (deg, 1) (by simp)
    rw [e1, e2, Int.mul_one, Int.emod_eq_of_lt (by omega) hk.2, Int.emod_eq_of_lt (by decide) (by omega)] at h1
    exact h1
  refine g.nf.uniq g'.nf fun e => ?_
  rw [← hx e, ex, hk1, conv_one, Int.sub_zero]
/-- d is the greatest common divisor of f and g -/
structure IsG (p : Int) (f g d : Pol) : Prop where
  gd : Gd p d
  md : In p f g d
  l : In p d [] f
  r : In p d [] g
theorem IsG.uniq {p : Int} (hp : p ∈ primes) {f g f' g' d d' : Pol} (a : IsG p f g d) (b : IsG p f' g' d') (h1 : In p f g f') (h2 : In p f g g') (h3 : In p f' g' f) (h4 : In p f' g' g) : d = d' := by
  have hpr := prime_rng p hp
  exact gd_uniq hp a.gd b.gd ((a.l.trans a.r (h1.trans h2 b.md)).dv (by omega)) ((b.l.trans b.r (h3.trans h4 a.md)).dv (by omega))
/-! ### moved to begin at exponent 0 -/
end DR
namespace DR
open PySem PySem.Spec PyProof.Rows L2
/-- a pair of polynomials -/
def PrV (K : PySem.W.Frag) (H : Hp) (v : V) (f g : Pol) : Prop := ∃ a x y, v = .ref a ∧ SqT K H a [x, y] ∧ TPol K H x f ∧ TPol K H y g
theorem PrV.tp {K : PySem.W.Frag} {H H' : Hp} {v : V} {f g : Pol} (e : Tp H H') (h : PrV K H v f g) : PrV K H' v f g := by
  obtain ⟨a, x, y, rfl, h1, h2, h3⟩ := h
  exact ⟨a, x, y, rfl, tp_t e h1, h2.tp e, h3.tp e⟩
theorem PrV.new {K : PySem.W.Frag} {H : Hp} {x y : V} {t : Addr} {f g : Pol} (n : H t = none) (h1 : TPol K H x f) (h2 : TPol K H y g) : PrV K (upd H t (.tup [x, y])) (.ref t) f g := ⟨t, x, y, rfl, SqT.of upd_same, h1.tp (tp_new n), h2.tp (tp_new n)⟩
end DR
namespace DR
open PySem PySem.Spec PyProof.Rows L2
section
variable {p : Int}
theorem IsG.mono (hp : 2 ≤ p) (e : Int) (g : Pol) : IsG p [(e, 1)] g [(0, 1)] := by
  have all : ∀ u, In p [(0, 1)] [] u := fun u => ⟨u, [], fun x => by
    rw [conv_comm, conv_one, Int.sub_zero, conv_nil, Int.add_zero]⟩
  refine ⟨⟨nf_one (by decide) (by omega), .inr ⟨⟨1, [], rfl⟩, [], 0, rfl⟩⟩, ?_, all _, all _⟩
  have := (In.l (p := p) (f := [(e, 1)]) (g := g)).mv (-e)
  have e1 : moved (-e) [(e, 1)] = [(0, 1)] := by
    show [(e + -e, 1)] = _
    rw [Int.add_right_neg]
  rw [e1] at this
  exact this
/-! ### 1 - t ** k -/
def GapP (p : Int) (g : Pol) (k : Int) : Prop := Nf p g (fun e => cf [(0, 1)] e - cf [(k, 1)] e)
theorem gap_ex (hp : 0 < p) (k : Int) : ∃ g, GapP p g k := by
  obtain ⟨g, h⟩ := nf_ex hp [(0, 1), (k, -1)]
  refine ⟨g, h.to fun e => ?_⟩
  congr 1
  show (if 0 = e then 1 else 0) + ((if k = e then -1 else 0) + 0) = (if 0 = e then 1 else 0) + 0 - ((if k = e then 1 else 0) + 0)
  split <;> split <;> omega
def GapIn (p : Int) (f g : Pol) (k : Int) : Prop := ∀ u, GapP p u k → In p f g u
theorem cf_one1 (k e : Int) : cf [(k, 1)] e = if k = e then 1 else 0 := by
  show (if k = e then 1 else 0) + 0 = _
  rw [Int.add_zero]
theorem GapIn.sub (hp : 0 < p) {f g : Pol} {a b : Int} (h : GapIn p f g a) (h2 : GapIn p f g b) : GapIn p f g (a - b) := fun u hu => by
  obtain ⟨ua, ha⟩ := gap_ex hp a
  obtain ⟨ub, hb⟩ := gap_ex hp b
  obtain ⟨w, hw⟩ := nf_ex hp (ua ++ ub.map fun t => (t.1, t.2 * -1))
  have hw2 : ∀ e, cf w e % p = (cf ua e - cf ub e) % p := fun e => by
    rw [hw.cof, Int.emod_emod, cf_append, cf_scale]
    congr 1
    omega
  have iw : In p f g w := (h ua ha).sub (h2 ub hb) hw2
  refine (iw.mv (-b)).to fun e => ?_
  rw [cf_moved, hw2, ha.cof, hb.cof, hu.cof, Int.emod_emod, ← Int.sub_emod]
  congr 1
  rw [show e - -b = e + b by omega, cf_one1, cf_one1, cf_one1, cf_one1, cf_one1]
  by_cases h1 : a = e + b
  · rw [if_pos h1, if_pos (by omega : a - b = e)]
    by_cases h3 : b = e + b
    · rw [if_pos h3, if_pos (by omega : (0 : Int) = e)]
      omega
    · rw [if_neg h3, if_neg (by omega : ¬ (0 : Int) = e)]
      omega
  · rw [if_neg h1, if_neg (by omega : ¬ a - b = e)]
    by_cases h3 : b = e + b
    · rw [if_pos h3, if_pos (by omega : (0 : Int) = e)]
      omega
    · rw [if_neg h3, if_neg (by omega : ¬ (0 : Int) = e)]
      omega
end
end DR
namespace DR
open PySem PySem.Spec PyProof.Rows L2
/-! ### sums over the terms, class sums -/
def ws (φ : Int → Int) : Pol → Int
  | [] => 0
  | t :: r => t.2 * φ t.1 + ws φ r
/-! ### commuting: q (1 - t ** s) = f (1 - t ** k) -/
def Cm (p : Int) (f : Pol) (s : Int) (q : Pol) (k : Int) : Prop := ∀ e, (cf q e - cf q (e - s)) % p = (cf f e - cf f (e - k)) % p
theorem Cm.uniq {p : Int} (hp : p ∈ primes) {f q q' : Pol} {s k : Int} (hs : s ≠ 0) (nq : Nf p q (cf q)) (nq' : Nf p q' (cf q')) (h : Cm p f s q k) (h' : Cm p f s q' k) : q = q' := by
  have hpr := prime_rng p hp
  obtain ⟨g, ng⟩ := gap_ex (p := p) (by omega) s
  refine nq.uniq nq' fun e => conv_cancel hp ng.self (gap_ne hpr.1 hs ng) (fun e => ?_) e
  rw [gap_conv ng, gap_conv ng, h e, h' e]
theorem mod_sub {p a b c d : Int} (h : a % p = b % p) (k : c % p = d % p) : (a - c) % p = (b - d) % p := by
  rw [Int.sub_emod, h, k, ← Int.sub_emod]
/-- a power's polynomial over its base -/
theorem Cm.power {p : Int} (hp : p ∈ primes) {f q : Pol} {s k n : Int} (hk : k ≠ 0) (hn : 0 ≤ n) (hs : s = n * k) (h : Cm p f s q k) (e : Int) : pwF (cf q) k n e % p = cf f e % p := by
  have hpr := prime_rng p hp
  obtain ⟨g, ng⟩ := gap_ex (p := p) (by omega) k
  have e1 : ∀ x, pwF (cf q) k n x = conv q (cf (rounds n.toNat k)) x := fun x => (pw_rounds q k hn x).symm
  have e2 : ∀ x, pwF (cf q) k n x = cf (prods q (rounds n.toNat k)) x := fun x => by rw [e1, cf_prods]
  have tel : ∀ x, pwF (cf q) k n x - pwF (cf q) k n (x - k) = cf q x - cf q (x - n * k) := fun x => by
    have h1 := pw_add (cf q) k 1 n x
    have h2 := pw_add (cf q) k n 1 x
    rw [pw_one] at h1 h2
    rw [Int.one_mul] at h1
    rw [Int.add_comm 1 n] at h1
    omega
  have key : ∀ x, cf (prods q (rounds n.toNat k)) x % p = cf f x % p := conv_cancel hp ng.self (gap_ne hpr.1 hk ng) fun x => by
    rw [gap_conv ng, gap_conv ng, ← e2, ← e2, tel, ← hs]
    exact h x
  rw [e2]
  exact key e
/-! ### the promises -/
theorem Cal.imp {P : Program} {w : World} {K : PySem.W.Frag} {mg : Str → Option Value} {base : Heap} {k : Nat} {x : Str} {sp sp' : Sp} (c : Cal P w K mg base k x sp) (h : ∀ vs H Q E, sp' vs H Q E → sp vs H Q E) : Cal P w K mg base k x sp' := by
  obtain ⟨f, fd, ps, F, r⟩ := c.ex
  exact ⟨f, fd, ps, F.imp h, r⟩
/-! ### the laws' own long division, with its quotient -/
end DR
namespace DR
open PySem PySem.Spec PyProof.Rows L2
/-! ### commuting is the same fraction f / (1 - t ** s) -/
theorem Cm.refl {p : Int} (f : Pol) (s : Int) : Cm p f s f s := fun _ => rfl
theorem Cm.symm {p : Int} {f q : Pol} {s k : Int} (h : Cm p f s q k) : Cm p q k f s := fun e => (h e).symm
theorem Cm.trans {p : Int} (hp : p ∈ primes) {f q r : Pol} {s k m : Int} (hk : k ≠ 0) (h : Cm p f s q k) (h2 : Cm p q k r m) : Cm p f s r m := by
  have hpr := prime_rng p hp
  obtain ⟨g, ng⟩ := gap_ex (p := p) (by omega) k
  let A : Pol := r ++ (moved s r).map fun t => (t.1, t.2 * -1)
  let B : Pol := f ++ (moved m f).map fun t => (t.1, t.2 * -1)
  have hA : ∀ e, cf A e = cf r e - cf r (e - s) := fun e => by
    show cf (r ++ (moved s r).map fun t => (t.1, t.2 * -1)) e = _
    rw [cf_append, cf_scale, cf_moved]
    omega
  have hB : ∀ e, cf B e = cf f e - cf f (e - m) := fun e => by
    show cf (f ++ (moved m f).map fun t => (t.1, t.2 * -1)) e = _
    rw [cf_append, cf_scale, cf_moved]
    omega
  have key : ∀ e, cf A e % p = cf B e % p := conv_cancel hp ng.self (gap_ne hpr.1 hk ng) fun e => by
    rw [gap_conv ng, gap_conv ng, hA, hA, hB, hB]
    have e1 := mod_sub (h2 e) (h2 (e - s))
    have e2 := mod_sub (h e) (h (e - m))
    rw [show cf r e - cf r (e - s) - (cf r (e - k) - cf r (e - k - s)) = cf r e - cf r (e - k) - (cf r (e - s) - cf r (e - s - k)) by rw [show e - k - s = e - s - k by omega]; omega, e1]
    rw [show cf f e - cf f (e - m) - (cf f (e - k) - cf f (e - k - m)) = cf f e - cf f (e - k) - (cf f (e - m) - cf f (e - m - k)) by rw [show e - k - m = e - m - k by omega]; omega, ← e2]
    congr 1
    rw [show e - s - m = e - m - s by omega]
    omega
  exact fun e => by rw [← hA, ← hB, key e]
theorem Cm.inv {p : Int} {f r : Pol} {s : Int} (nr : Nf p r (fun e => cf f (e + s) * -1)) : Cm p f s r (-s) := fun x => by
  rw [show (cf f x - cf f (x - -s)) = cf f (x + s) * -1 - cf f (x - s + s) * -1 by rw [show x - s + s = x by omega, show x - -s = x + s by omega]; omega]
  exact mod_sub (by rw [nr.cof, Int.emod_emod]) (by rw [nr.cof, Int.emod_emod])
/-- the shifts of what commutes -/
def Ks (p : Int) (f : Pol) (s m : Int) : Prop := ∃ q : Pol, Cm p f s q m
theorem Ks.sub {p : Int} {f : Pol} {s a b : Int} (h : Ks p f s a) (h2 : Ks p f s b) : Ks p f s (a - b) := by
  obtain ⟨q, hq⟩ := h
  obtain ⟨r, hr⟩ := h2
  refine ⟨q ++ (moved (a - b) r).map fun t => (t.1, t.2 * -1), fun e => ?_⟩
  rw [cf_append, cf_append, cf_scale, cf_scale, cf_moved, cf_moved]
  have e1 := mod_sub (hq e) (hr (e - (a - b)))
  rw [show cf f e - cf f (e - (a - b)) = cf f e - cf f (e - a) - (cf f (e - (a - b)) - cf f (e - (a - b) - b)) by rw [show e - (a - b) - b = e - a by omega]; omega, ← e1]
  congr 1
  rw [show e - s - (a - b) = e - (a - b) - s by omega]
  omega
theorem Ks.neg {p : Int} {f : Pol} {s a : Int} (h : Ks p f s a) : Ks p f s (-a) := by
  have h0 := h.sub h
  have := h0.sub h
  rw [show a - a - a = -a by omega] at this
  exact this
theorem Ks.abs {p : Int} {f : Pol} {s a : Int} (h : Ks p f s a) : Ks p f s ((a.natAbs : Nat) : Int) := by
  rcases Int.natAbs_eq a with e | e
  · rw [← e]
    exact h
  · have := h.neg
    rw [show ((a.natAbs : Nat) : Int) = -a by omega]
    exact this
/-- what root gives -/
structure IsR (p : Int) (f : Pol) (s : Int) (q : Pol) (k c : Int) : Prop where
  nf : Nf p q (cf q)
  pos : 0 < c
  mul : s = c * k
  cm : Cm p f s q k
  prim : ∀ m, Ks p f s m → k ∣ m
theorem IsR.k0 {p : Int} {f q : Pol} {s k c : Int} (h : IsR p f s q k c) (hs : s ≠ 0) : k ≠ 0 := fun z => hs (by rw [h.mul, z, Int.mul_zero])
end DR
namespace L2
open PySem PySem.Spec PyProof.Rows
/-! ### an exception that is kept behind its except suite: there it is tracked -/
/-! ### isinstance of an exception that is held -/
end L2
namespace L2
open PySem PySem.Spec PyProof.Rows
/-! ### own exception classes over any built-in one, whose `__init__` keeps one field -/
end L2
namespace L2
open PySem PySem.Spec PyProof.Rows
/-! ### isinstance of an exception that is held with its dict -/
end L2
/-! ### methods of own classes, by their names; a reader of tokens -/
namespace DR
open PySem PySem.Spec PyProof.Rows L2
structure MetC (CX : CXT) (P : Program) (w : World) (K : PySem.W.Frag) (mg : Str → Option Value) (base : Heap) (C : Addr) (k : Nat) (m : Str) (sp : Sp) : Prop where
  ex : ∃ (f : Addr) (fd : FuncData) (ps : List Str), FnOk P w K mg base CX k f fd ps sp ∧ Meth K C m f ∧ Binds K fd ps []
section
variable {CX : CXT} {P : Program} {w : World} {K : PySem.W.Frag} {mg : Str → Option Value} {base : Heap} {C : Addr} {k : Nat} {m : Str} {sp : Sp}
noncomputable def MetC.f (c : MetC CX P w K mg base C k m sp) : Addr := c.ex.choose
noncomputable def MetC.fd (c : MetC CX P w K mg base C k m sp) : FuncData := c.ex.choose_spec.choose
noncomputable def MetC.ps (c : MetC CX P w K mg base C k m sp) : List Str := c.ex.choose_spec.choose_spec.choose
theorem MetC.ok (c : MetC CX P w K mg base C k m sp) : FnOk P w K mg base CX k c.f c.fd c.ps sp := c.ex.choose_spec.choose_spec.choose_spec.1
theorem MetC.hm (c : MetC CX P w K mg base C k m sp) : Meth K C m c.f := c.ex.choose_spec.choose_spec.choose_spec.2.1
theorem MetC.b (c : MetC CX P w K mg base C k m sp) : Binds K c.fd c.ps [] := c.ex.choose_spec.choose_spec.choose_spec.2.2
end
/-- where a method stands -/
structure DfM (K : PySem.W.Frag) (C : Addr) (m q : Str) (st : Stmt) : Prop where
  ex : ∃ (f : Addr) (fd : FuncData), Fun K m q st f fd ∧ Meth K C m f
theorem met_of {CX : CXT} {P : Program} {w : World} {K : PySem.W.Frag} {mg : Str → Option Value} {base : Heap} {C : Addr} {k : Nat} {m q : Str} {st : Stmt} {ps : List Str} {sp : Sp} (D : DfM K C m q st)
    (b : ∀ (kV doc pm : Value) (an : Option Addr) (cdv ct : Value) (us : List Value), us.length = ps.length → bindArgs (PySem.W.fnOf m q (defArgs st) (defBody st) (defScope st) .none kV doc pm an cdv ct) ⟨us, []⟩ = pure (ps.zip us))
    (ok : ∀ f fd, Fun K m q st f fd → FnOk P w K mg base CX k f fd ps sp) : MetC CX P w K mg base C k m sp := by
  obtain ⟨f, fd, F, hm⟩ := D.ex
  exact ⟨f, fd, ps, ok f fd F, hm, F.binds b⟩
/-- the class that makes instances -/
structure MkF (P : Program) (w : World) (K : PySem.W.Frag) (mg : Str → Option Value) (base : Heap) (x : Str) (C : Addr) (k : Nat) (sp : Sp) : Prop where
  ex : ∃ (f : Addr) (fd : FuncData) (ps : List Str), Mk K C f ∧ FnOk P w K mg base CX0 k f fd ps sp ∧ Binds K fd ps []
  gl : mg x = some (.ref C)
section
variable {X : Cx} {W : WX} {C : Addr} {k j : Nat} {m x : Str} {sp : Sp} {o e : Expr} {es : List Expr} {ta : TE} {t : TA} {pos apos p : Pos} {E : XK}
theorem pe_mk_ (c : MkF X.prog X.w X.K X.mg X.base x C k sp) (hr : Room j X.A) (hk : k + 1 ≤ j) (hg : Gl X x) (ha : PA X (e :: es) t)
    (h1 : (x == ("__debug__" : Str)) = false := by decide) (h2 : starEach (e :: es) X.env = (false, eval e X.env) :: starEach es X.env := by rfl) (h3 : (backTo pos (starEach es X.env)).any (·.1) = false := by rfl) :
    PE X (.Call (.Name x p) (e :: es) [] pos) (tMake C sp [] E0 t) := by
  obtain ⟨f, fd, ps, M, F, b⟩ := c.ex
  exact pe_make M F (hr.mono hk) hg c.gl b .nil pass0 ha h1 h2 h3
end
/-! ### the reader's fields -/
def rdF (a : Addr) (s : RS) : List (Str × V) := [("tokens", .ref a), ("at", .int s.p), ("instructions", .int s.n), ("repeats", .int s.r)]
/-- a reader stands at p, its tokens at a -/
structure Rdr (C : Addr) (H : Hp) (p a : Addr) (T : List Str) (s : RS) : Prop where
  ob : ∃ dx, H p = some (.ins C dx (rdF a s))
  tk : H a = some (.lst (T.map V.str))
  le : s.p ≤ T.length
  few : s.n ≤ 100
  big : T.length ≤ 100000
theorem Rdr.ne {C : Addr} {H : Hp} {p a : Addr} {T : List Str} {s : RS} (R : Rdr C H p a T s) : p ≠ a := by
  obtain ⟨dx, e⟩ := R.ob
  exact ne_of e R.tk (by intro z; cases z)
theorem Rdr.same {C : Addr} {H H' : Hp} {p a : Addr} {T : List Str} {s : RS} (e : Same H H') (R : Rdr C H p a T s) : Rdr C H' p a T s := by
  obtain ⟨dx, h⟩ := R.ob
  exact ⟨⟨dx, e _ _ h⟩, e _ _ R.tk, R.le, R.few, R.big⟩
/-- the text is refused at a token -/
def BadE (CI : Addr) (E : XK) (p : Addr) (H : Hp) (k : Nat) : Prop := ∀ d H', Kp p H H' → H' d = none → E (.ref CI) (some d) (upd H' d (.xd [("position", .int k)]))
theorem BadE.kp {CI : Addr} {E : XK} {p : Addr} {H H1 : Hp} {k : Nat} (b : BadE CI E p H k) (h : Kp p H H1) : BadE CI E p H1 k := fun d H' h' n => b d H' (h.trans h') n
def sp_is_countZ : Sp := fun vs H Q _ => ∃ z : Int, vs = [.int z] ∧ Q (.bl (decide (z.natAbs ≤ 10 ^ 30))) H
end DR
namespace DR
open PySem PySem.Spec PyProof.Rows L2
/-! [an int for x in a program] -/
/-! rules whose fragment is told: for the inside of comprehensions -/
section
variable {X : Cx}
theorem ix_tupK (K : PySem.W.Frag) (h : X.K = K) : IxR X (rIxT K) := h ▸ ix_tup
end
/-! lists that stay while the pen draws -/
theorem kp_lst {H H' : Hp} {p c F : Addr} {n : Nat} {xs : List V} (pen : PenAt H p c n) (k : Kp p H H') (h : H F = some (.lst xs)) : H' F = some (.lst xs) :=
  k _ _ (pen.dict.elim fun _ e => ne_of h e (by intro z; cases z)) h
end DR
namespace DR
open PySem PySem.Spec PyProof.Rows L2
/-! ### what a program turns: at each place, run from 0 -/
def rsum (f : Int → Int) (s : Int) : Nat → Int → Int
  | 0, _ => 0
  | n + 1, x => rsum f s n x + f (x - n * s)
mutual
def seI : Ins → Int → Int
  | .step _, _ => 0
  | .turn c, x => if x = 0 then c else 0
  | .rep n b, x => rsum (fun y => seP b y) (shP b) n.toNat x
def seP : List Ins → Int → Int
  | [], _ => 0
  | i :: r, x => seI i x + seP r (x - shI i)
end
/-! the counts of repeats are from 0 on, and not too large to be run -/
mutual
def NI : Ins → Prop
  | .step _ => True
  | .turn _ => True
  | .rep n b => 0 ≤ n ∧ NP b
def NP : List Ins → Prop
  | [] => True
  | i :: r => NI i ∧ NP r
end
mutual
def unI : Ins → List Ins
  | .step c => [.step c]
  | .turn c => [.turn c]
  | .rep n b => (List.replicate n.toNat (unP b)).flatten
def unP : List Ins → List Ins
  | [] => []
  | i :: r => unI i ++ unP r
end
theorem seP_nil (x : Int) : seP [] x = 0 := by rw [seP]
theorem seP_cons (i : Ins) (r : List Ins) (x : Int) : seP (i :: r) x = seI i x + seP r (x - shI i) := by rw [seP]
theorem seP_app : ∀ (a b : List Ins) (x : Int), seP (a ++ b) x = seP a x + seP b (x - shP a)
  | [], b, x => by rw [List.nil_append, seP_nil, shP_nil, Int.zero_add, Int.sub_zero]
  | i :: r, b, x => by
    rw [List.cons_append, seP_cons, seP_cons, seP_app r b, shP_cons, Int.add_assoc]
    congr 2
    congr 1
    omega
theorem rsum_congr {f g : Int → Int} {s : Int} (h : ∀ x, f x = g x) : ∀ (n : Nat) (x : Int), rsum f s n x = rsum g s n x
  | 0, _ => rfl
  | n + 1, x => by
    show rsum f s n x + f _ = rsum g s n x + g _
    rw [rsum_congr h n x, h]
theorem NP_cons (i : Ins) (r : List Ins) : NP (i :: r) = (NI i ∧ NP r) := by rw [NP]
theorem NP_app : ∀ (a b : List Ins), NP a → NP b → NP (a ++ b)
  | [], b, _, h => h
  | i :: r, b, h, h2 => by
    rw [List.cons_append, NP_cons]
    rw [NP_cons] at h
    exact ⟨h.1, NP_app r b h.2 h2⟩
theorem NP_mem : ∀ {b : List Ins} {i : Ins}, NP b → i ∈ b → NI i
  | [], _, _, h => absurd h List.not_mem_nil
  | j :: r, i, w, h => by
    rw [NP_cons] at w
    rcases List.mem_cons.mp h with e | e
    · rw [e]; exact w.1
    · exact NP_mem w.2 e
theorem unP_cons (i : Ins) (r : List Ins) : unP (i :: r) = unI i ++ unP r := by rw [unP]
theorem unP_app : ∀ (a b : List Ins), unP (a ++ b) = unP a ++ unP b
  | [], b => by rw [show unP [] = [] by unfold unP; rfl]; rfl
  | i :: r, b => by rw [List.cons_append, unP_cons, unP_cons, unP_app r b, List.append_assoc]
theorem sh_flat (u : List Ins) : ∀ n : Nat, shP (List.replicate n u).flatten = n * shP u
  | 0 => by
    rw [List.replicate_zero, List.flatten_nil, shP_nil]
    omega
  | n + 1 => by
    rw [List.replicate_succ, List.flatten_cons, shP_app, sh_flat u n, Int.natCast_succ, Int.add_mul]
    omega
theorem ex_flat (u : List Ins) : ∀ n : Nat, exP (List.replicate n u).flatten = n * exP u
  | 0 => by
    rw [List.replicate_zero, List.flatten_nil, exP_nil]
    omega
  | n + 1 => by
    rw [List.replicate_succ, List.flatten_cons, exP_app, ex_flat u n, Int.natCast_succ, Int.add_mul]
    omega
theorem se_flat (u : List Ins) : ∀ (n : Nat) (x : Int), seP (List.replicate n u).flatten x = rsum (fun y => seP u y) (shP u) n x
  | 0, x => by
    rw [List.replicate_zero, List.flatten_nil, seP_nil]
    rfl
  | n + 1, x => by
    rw [List.replicate_succ', List.flatten_append, seP_app, se_flat u n x, sh_flat, List.flatten_cons, List.flatten_nil, List.append_nil]
    rfl
/-! the same effect, written out -/
mutual
theorem unI_ok : ∀ (i : Ins), NI i → shP (unI i) = shI i ∧ exP (unI i) = exI i ∧ ∀ x, seP (unI i) x = seI i x
  | .step c, _ => by
    rw [unI]
    refine ⟨by rw [shP_cons, shP_nil, Int.add_zero], by rw [exP_cons, exP_nil, Int.add_zero], fun x => by rw [seP_cons, seP_nil, Int.add_zero]⟩
  | .turn c, _ => by
    rw [unI]
    refine ⟨by rw [shP_cons, shP_nil, Int.add_zero], by rw [exP_cons, exP_nil, Int.add_zero], fun x => by rw [seP_cons, seP_nil, Int.add_zero]⟩
  | .rep n b, h => by
    rw [NI] at h
    obtain ⟨h1, h2, h3⟩ := unP_ok b h.2
    have hn : ((n.toNat : Nat) : Int) = n := Int.toNat_of_nonneg h.1
    rw [unI]
    refine ⟨by rw [sh_flat, h1, shI, hn], by rw [ex_flat, h2, exI, hn], fun x => ?_⟩
    rw [se_flat, seI, h1]
    exact rsum_congr h3 _ _
theorem unP_ok : ∀ (b : List Ins), NP b → shP (unP b) = shP b ∧ exP (unP b) = exP b ∧ ∀ x, seP (unP b) x = seP b x
  | [], _ => by
    rw [show unP [] = [] by unfold unP; rfl]
    exact ⟨rfl, rfl, fun _ => rfl⟩
  | i :: r, h => by
    rw [NP_cons] at h
    obtain ⟨a1, a2, a3⟩ := unI_ok i h.1
    obtain ⟨b1, b2, b3⟩ := unP_ok r h.2
    rw [unP_cons]
    exact ⟨by rw [shP_app, a1, b1, shP_cons], by rw [exP_app, a2, b2, exP_cons], fun x => by rw [seP_app, a3, b3, a1, seP_cons]⟩
end
mutual
theorem unI_flat : ∀ (i : Ins), ∀ j ∈ unI i, isFlat j
  | .step c, j, h => by
    rw [unI] at h
    cases List.mem_singleton.mp h
    trivial
  | .turn c, j, h => by
    rw [unI] at h
    cases List.mem_singleton.mp h
    trivial
  | .rep n b, j, h => by
    rw [unI] at h
    obtain ⟨l, hl, hj⟩ := List.mem_flatten.mp h
    rw [(List.mem_replicate.mp hl).2] at hj
    exact unP_flat b j hj
theorem unP_flat : ∀ (b : List Ins), ∀ j ∈ unP b, isFlat j
  | [], j, h => by
    rw [show unP [] = [] by unfold unP; rfl] at h
    exact absurd h List.not_mem_nil
  | i :: r, j, h => by
    rw [unP_cons] at h
    rcases List.mem_append.mp h with z | z
    · exact unI_flat i j z
    · exact unP_flat r j z
end
theorem flat_ex : ∀ (u : List Ins), (∀ j ∈ u, isFlat j) → exP u = (u.length : Int)
  | [], _ => by rw [exP_nil]; rfl
  | i :: r, h => by
    have h1 := h i List.mem_cons_self
    have h2 : exI i = 1 := by cases i <;> first | exact absurd h1 id | (rw [exI])
    rw [exP_cons, h2, flat_ex r fun j hj => h j (List.mem_cons_of_mem _ hj), List.length_cons]
    omega
theorem un_len {b : List Ins} (h : NP b) : ((unP b).length : Int) = exP b := by
  rw [← flat_ex _ (unP_flat b), (unP_ok b h).2.1]
mutual
theorem exI_nn : ∀ (i : Ins), NI i → 0 ≤ exI i
  | .step c, _ => by rw [exI]; decide
  | .turn c, _ => by rw [exI]; decide
  | .rep n b, h => by
    rw [NI] at h
    rw [exI]
    exact Int.mul_nonneg h.1 (exP_nn b h.2)
theorem exP_nn : ∀ (b : List Ins), NP b → 0 ≤ exP b
  | [], _ => by rw [exP_nil]; exact Int.le_refl _
  | i :: r, h => by
    rw [NP_cons] at h
    have := exI_nn i h.1
    have := exP_nn r h.2
    rw [exP_cons]
    omega
end
theorem exP_mem : ∀ {b : List Ins} {i : Ins}, NP b → i ∈ b → exI i ≤ exP b
  | [], _, _, h => absurd h List.not_mem_nil
  | j :: r, i, w, h => by
    rw [NP_cons] at w
    have h1 := exI_nn j w.1
    have h2 := exP_nn r w.2
    rw [exP_cons]
    rcases List.mem_cons.mp h with e | e
    · rw [e]; omega
    · have := exP_mem w.2 e; omega
theorem exP_take : ∀ (b : List Ins) (j : Nat), NP b → exP (b.take j) ≤ exP b
  | [], _, _ => by rw [List.take_nil]; exact Int.le_refl _
  | i :: r, 0, h => by
    rw [List.take_zero, exP_nil]
    exact exP_nn _ h
  | i :: r, j + 1, h => by
    rw [NP_cons] at h
    rw [List.take_succ_cons, exP_cons, exP_cons]
    have := exP_take r j h.2
    omega
theorem seP_snoc {b : List Ins} {j : Nat} {i : Ins} (h : b[j]? = some i) (x : Int) : seP (b.take (j + 1)) x = seP (b.take j) x + seI i (x - shP (b.take j)) := by
  rw [take_snoc h, seP_app, seP_cons, seP_nil, Int.add_zero]
theorem unP_snoc {b : List Ins} {j : Nat} {i : Ins} (h : b[j]? = some i) : unP (b.take (j + 1)) = unP (b.take j) ++ unI i := by
  rw [take_snoc h, unP_app, unP_cons, show unP [] = [] by unfold unP; rfl, List.append_nil]
theorem NP_take : ∀ {b : List Ins} (j : Nat), NP b → NP (b.take j)
  | [], _, _ => by rw [List.take_nil, NP]; trivial
  | i :: r, 0, h => by rw [List.take_zero, NP]; trivial
  | i :: r, j + 1, h => by
    rw [NP_cons] at h
    rw [List.take_succ_cons, NP_cons]
    exact ⟨h.1, NP_take j h.2⟩
/-! rounds that may be run -/
mutual
def RI (N : Int) : Ins → Prop
  | .step _ => True
  | .turn _ => True
  | .rep n b => n ≤ N ∧ RP N b
def RP (N : Int) : List Ins → Prop
  | [] => True
  | i :: r => RI N i ∧ RP N r
end
theorem RP_cons (N : Int) (i : Ins) (r : List Ins) : RP N (i :: r) = (RI N i ∧ RP N r) := by rw [RP]
theorem RP_mem {N : Int} : ∀ {b : List Ins} {i : Ins}, RP N b → i ∈ b → RI N i
  | [], _, _, h => absurd h List.not_mem_nil
  | j :: r, i, w, h => by
    rw [RP_cons] at w
    rcases List.mem_cons.mp h with e | e
    · rw [e]; exact w.1
    · exact RP_mem w.2 e
theorem RP_app {N : Int} : ∀ (a b : List Ins), RP N a → RP N b → RP N (a ++ b)
  | [], b, _, h => h
  | i :: r, b, h, h2 => by
    rw [List.cons_append, RP_cons]
    rw [RP_cons] at h
    exact ⟨h.1, RP_app r b h.2 h2⟩
/-! ### how far a run goes -/
mutual
def trI : Ins → Int
  | .step c => (c.natAbs : Int)
  | .turn _ => 0
  | .rep n b => (n.natAbs : Int) * trP b
def trP : List Ins → Int
  | [] => 0
  | i :: r => trI i + trP r
end
theorem trP_nil : trP [] = 0 := by unfold trP; rfl
theorem trP_cons (i : Ins) (r : List Ins) : trP (i :: r) = trI i + trP r := by rw [trP]
mutual
theorem trI_nn : ∀ i : Ins, 0 ≤ trI i
  | .step c => by rw [trI]; omega
  | .turn c => by rw [trI]; omega
  | .rep n b => by
    rw [trI]
    exact Int.mul_nonneg (by omega) (trP_nn b)
theorem trP_nn : ∀ b : List Ins, 0 ≤ trP b
  | [] => by rw [trP_nil]; omega
  | i :: r => by
    have := trI_nn i
    have := trP_nn r
    rw [trP_cons]
    omega
end
mutual
theorem shI_tr : ∀ i : Ins, ((shI i).natAbs : Int) ≤ trI i
  | .step c => by rw [shI, trI]; omega
  | .turn c => by rw [shI, trI]; omega
  | .rep n b => by
    rw [shI, trI, Int.natAbs_mul, Int.natCast_mul]
    exact Int.mul_le_mul_of_nonneg_left (shP_tr b) (by omega)
theorem shP_tr : ∀ b : List Ins, ((shP b).natAbs : Int) ≤ trP b
  | [] => by rw [shP_nil, trP_nil]; decide
  | i :: r => by
    have := shI_tr i
    have := shP_tr r
    rw [shP_cons, trP_cons]
    omega
end
theorem rsum_far {f : Int → Int} {s t : Int} (hs : (s.natAbs : Int) ≤ t) (hf : ∀ x : Int, t < (x.natAbs : Int) → f x = 0) : ∀ (n : Nat) (x : Int), (n : Int) * t < (x.natAbs : Int) → rsum f s n x = 0
  | 0, _, _ => rfl
  | n + 1, x, h => by
    rw [Int.natCast_succ, Int.add_mul, Int.one_mul] at h
    have h0 : 0 ≤ t := by omega
    have h1 : ((n * s).natAbs : Int) ≤ (n : Int) * t := by
      rw [Int.natAbs_mul, Int.natCast_mul]
      exact Int.mul_le_mul_of_nonneg_left hs (by omega)
    show rsum f s n x + f (x - n * s) = 0
    rw [rsum_far hs hf n x (by omega), hf _ (by omega)]
    rfl
mutual
theorem seI_far : ∀ (i : Ins) (x : Int), NI i → trI i < (x.natAbs : Int) → seI i x = 0
  | .step c, x, _, _ => by rw [seI]
  | .turn c, x, _, h => by
    rw [trI] at h
    rw [seI, if_neg (by omega)]
  | .rep n b, x, hn, h => by
    rw [NI] at hn
    rw [trI] at h
    rw [seI]
    refine rsum_far (t := trP b) (shP_tr b) (fun y hy => seP_far b y hn.2 hy) _ _ ?_
    rw [Int.toNat_of_nonneg hn.1]
    have e : ((n.natAbs : Nat) : Int) = n := by omega
    rw [e] at h
    exact h
theorem seP_far : ∀ (b : List Ins) (x : Int), NP b → trP b < (x.natAbs : Int) → seP b x = 0
  | [], x, _, _ => seP_nil x
  | i :: r, x, hn, h => by
    rw [NP_cons] at hn
    rw [trP_cons] at h
    have := shI_tr i
    have := trP_nn r
    have := trI_nn i
    rw [seP_cons, seI_far i x hn.1 (by omega), seP_far r _ hn.2 (by omega)]
    rfl
end
/-! ### drawn programs, with what their repeats may do -/
structure PrR (b : List Ins) (k N : Nat) (R : Int) : Prop where
  ok : PrOk b k N
  nn : NP b
  rp : RP R b
theorem flat_np : ∀ {b : List Ins} {R : Int}, (∀ i ∈ b, isFlat i) → NP b ∧ RP R b
  | [], _, _ => by rw [NP, RP]; exact ⟨trivial, trivial⟩
  | i :: r, R, h => by
    have h1 := h i List.mem_cons_self
    obtain ⟨a, c⟩ := flat_np (b := r) (R := R) fun j hj => h j (List.mem_cons_of_mem _ hj)
    rw [NP_cons, RP_cons]
    cases i with
    | step _ => rw [NI, RI]; exact ⟨⟨trivial, a⟩, trivial, c⟩
    | turn _ => rw [NI, RI]; exact ⟨⟨trivial, a⟩, trivial, c⟩
    | rep _ _ => exact absurd h1 id
theorem Flat.okR {b : List Ins} {N R : Nat} (h : Flat b N R) (hR : R ≤ 2 ^ 100) (M : Int) : PrR b 0 N M := ⟨h.ok hR, (flat_np (R := M) h.flat).1, (flat_np h.flat).2⟩
theorem PrR.app {b c : List Ins} {k j N M : Nat} {R : Int} (h : PrR b k N R) (h2 : PrR c j M R) : PrR (b ++ c) (max k j) (N + M) R := ⟨h.ok.app h2.ok, NP_app _ _ h.nn h2.nn, RP_app _ _ h.rp h2.rp⟩
theorem PrR.rep {b : List Ins} {k N : Nat} {R : Int} (h : PrR b k N R) (hN : N ≤ 1024) {n : Int} (hn : n.natAbs ≤ 2 ^ 100) (h0 : 0 ≤ n) (h9 : n ≤ R) : PrR [.rep n b] (k + 1) (N + 1) R := by
  refine ⟨h.ok.rep hN hn, ?_, ?_⟩
  · rw [NP_cons, NI, NP]
    exact ⟨⟨h0, h.nn⟩, trivial⟩
  · rw [RP_cons, RI, RP]
    exact ⟨⟨h9, h.rp⟩, trivial⟩
theorem PrR.up {b : List Ins} {k N k' N' : Nat} {R : Int} (h : PrR b k N R) (a : k ≤ k') (c : N ≤ N') : PrR b k' N' R := ⟨h.ok.up a c, h.nn, h.rp⟩
mutual
theorem RI_up {R R' : Int} (h : R ≤ R') : ∀ (i : Ins), RI R i → RI R' i
  | .step _, _ => by rw [RI]; trivial
  | .turn _, _ => by rw [RI]; trivial
  | .rep n b, z => by
    rw [RI] at z ⊢
    exact ⟨Int.le_trans z.1 h, RP_up h b z.2⟩
theorem RP_up {R R' : Int} (h : R ≤ R') : ∀ (b : List Ins), RP R b → RP R' b
  | [], _ => by rw [RP]; trivial
  | i :: r, z => by
    rw [RP_cons] at z ⊢
    exact ⟨RI_up h i z.1, RP_up h r z.2⟩
end
/-- at most so many executed: instructions times the rounds around them -/
theorem ex_bd {R : Nat} (hR : 1 ≤ R) : ∀ (k : Nat) (b : List Ins), dpP b ≤ k → NP b → RP R b → exP b ≤ ((cnP b * R ^ k : Nat) : Int)
  | k, [], _, _, _ => by rw [exP_nil]; omega
  | k, i :: r, hd, hn, hr => by
    rw [dpP_cons] at hd
    rw [NP_cons] at hn
    rw [RP_cons] at hr
    have h2 := ex_bd hR k r (by omega) hn.2 hr.2
    have hp : 1 ≤ R ^ k := Nat.one_le_pow _ _ hR
    have h1 : exI i ≤ ((cnI i * R ^ k : Nat) : Int) := by
      cases i with
      | step c =>
        rw [exI, cnI]
        omega
      | turn c =>
        rw [exI, cnI]
        omega
      | rep n bb =>
        have hd1 : dpP bb + 1 ≤ k := by
          have := hd
          rw [dpI] at this
          omega
        have hn1 := hn.1
        have hr1 := hr.1
        rw [NI] at hn1
        rw [RI] at hr1
        have h3 := ex_bd hR (k - 1) bb (by omega) hn1.2 hr1.2
        rw [exI, cnI]
        have e : R ^ k = R * R ^ (k - 1) := by
          rw [show k = k - 1 + 1 by omega, Nat.pow_succ, Nat.mul_comm]
          rfl
        have h4 : n * exP bb ≤ (R : Int) * ((cnP bb * R ^ (k - 1) : Nat) : Int) := Int.le_trans (Int.mul_le_mul_of_nonneg_right hr1.1 (exP_nn bb hn1.2)) (Int.mul_le_mul_of_nonneg_left h3 (by omega))
        have e2 : (R : Int) * ((cnP bb * R ^ (k - 1) : Nat) : Int) = ((cnP bb * R ^ k : Nat) : Int) := by
          rw [e, ← Int.natCast_mul]
          congr 1
          rw [← Nat.mul_assoc, ← Nat.mul_assoc, Nat.mul_comm R]
        rw [e2] at h4
        have : cnP bb * R ^ k ≤ (cnP bb + 1) * R ^ k := Nat.mul_le_mul_right _ (Nat.le_succ _)
        omega
    rw [exP_cons, cnP_cons, Nat.add_mul]
    omega
termination_by k b => (k, b.length)
/-! ### promises -/
def sp_unrolled (K : PySem.W.Frag) (k : Nat) : Sp := fun vs H Q _ => ∃ (v : V) (b : List Ins), vs = [v] ∧ PV K H v b ∧ dpP b < k ∧ NP b ∧ exP b ≤ 10000 ∧
  ∀ D ys H', Same H H' → H D = none → H' D = some (.lst ys) → FIs K H' ys (unP b) → Q (.ref D) H'
end DR
namespace DR
open PySem PySem.Spec PyProof.Rows L2
section
variable {prog : Program} {w : World} {A : Around} {E : Value → Shared → Prop} {s : Shared}
/-- the items of a tuple, gathered: the heap is told -/
abbrev gathered (h : Heap) (arr : Array Value) : Heap := (h.push { cls := .type "list", data := .seq ([] : List Value).toArray }).update h.objs.size (Obj.mapSeq (· ++ arr))
theorem gathered_size (h : Heap) (arr : Array Value) : (gathered h arr).objs.size = h.objs.size + 1 := by
  show (Heap.update _ _ _).objs.size = _
  simp only [Heap.size_update, size_push']
theorem gathered_old {h : Heap} {arr : Array Value} {b : Addr} {u : Obj} (e : h.get? b = some u) : (gathered h arr).get? b = some u := by
  have := Nat.ne_of_gt (Heap.lt_size e)
  exact (Heap.get?_update_other _ _ this).trans (Heap.get?_push_of_some _ e)
theorem collect_tup {t : Addr} {arr : Array Value} {R : List Value → Shared → Prop} (ht : IsTup s.heap t arr) (hz : arr.size ≤ sizeLine) (k : R arr.toList { s with heap := gathered s.heap arr }) : wpAny (model prog w) A (collect (.ref t)) R E s := by
  obtain ⟨ob, h1, h2, c, h3⟩ := ht
  have hN : (s.heap.push { cls := .type "list", data := .seq ([] : List Value).toArray }).get? s.heap.objs.size = some { cls := .type "list", data := .seq #[] 0 } := Heap.get?_push_size _ rfl
  have hN2 := Heap.get?_update_self (Obj.mapSeq (· ++ arr)) hN rfl
  unfold collect
  have plain := Around.under_plainId (A := A) PySem.F.plain_proto_collect
  refine wpAny_bind (wpAny_runValue (codeAny_builtin PySem.F.entry_proto_collect ?_))
  rw [plain _]
  refine wpAny_bind (m := newList []) (wpAny_newObj_type (wpAny_pure ⟨plainId_quiet PySem.F.plain_list_iadd _, codeAny_builtin PySem.F.entry_list_iadd ?_⟩))
  rw [Around.under_plainId PySem.F.plain_list_iadd _]
  have last : ∀ s2 : Shared, s2 = { s with heap := gathered s.heap arr } → wpAny (model prog w) A (do match (← load s.heap.objs.size).data with | Data.seq xs _ => pure xs.toList | _ => unsupported "internal:collect") R E s2 := by
    rintro s2 rfl
    refine wpAny_bind (wpAny_load hN2 (wpAny_pure ?_))
    have e : ((#[] : Array Value) ++ arr).toList = arr.toList := by simp
    show R ((#[] : Array Value) ++ arr).toList _
    rw [e]
    exact k
  have ext := wpAny_extend_seq (prog := prog) (w := w) (A := A) (R := fun r s' => r = .ok (.ret (.ref s.heap.objs.size)) ∧ s' = { s with heap := gathered s.heap arr }) (s := { s with heap := s.heap.push { cls := .type "list", data := .seq ([] : List Value).toArray } }) _ t (.ref s.heap.objs.size) 0 (.inr rfl) hN (Heap.get?_push_of_some _ h1) h2 h3 ⟨rfl, rfl⟩ hz
  refine wpAny_mono ext (fun fin s' z => ?_) fun e s' z => absurd z.1 (by simp)
  cases fin with
  | done f =>
    obtain ⟨q, e2⟩ := z
    cases q
    exact last _ e2
  | again c' => exact ⟨z.1, codeAny_mono z.2 fun r s2 y => by
      obtain ⟨q, e2⟩ := y
      subst q
      exact last _ e2⟩
/-- sorted of a tuple of pairs: a new list of them in some order -/
theorem sorted_tup {t : Addr} {pairs : List Value} {after : Value → Shared → Prop} (there : IsTup s.heap t pairs.toArray) (room : pairs.length ≤ sizeLine) (each : ∀ v ∈ pairs, ∃ x y, Srt.IsPair s.heap v x y)
    (next : ∀ (g : Heap) (p : Addr) (out : List Value) (stamp : Nat), out.Perm pairs → (∀ b u, s.heap.get? b = some u → g.get? b = some u) → s.heap.objs.size ≤ p → g.get? p = some (seqObj "list" out.toArray stamp) → after (.ref p) { s with heap := g }) :
    wpAny (model prog w) A (call (.builtin "sorted") [.ref t]) after E s := by
  have fit : pairs.toArray.size ≤ sizeLine := by rw [List.size_toArray]; exact room
  refine Calls.call_function_entry kind_sorted plain_sorted entry_sorted (args_sorted1 _) ?_
  unfold Builtin.«sorted»
  refine wpAny_bind (m := checkCount "sorted" 1 1 _) (wpAny_pure (wpAny_bind (collect_tup there fit (wpAny_bind (wpAny_newList ?_ room)))))
  have stay : ∀ b u, s.heap.get? b = some u → (gathered s.heap pairs.toArray).get? b = some u := fun b u old => gathered_old old
  have above : s.heap.objs.size ≤ (gathered s.heap pairs.toArray).objs.size := by rw [gathered_size]; omega
  generalize gathered s.heap pairs.toArray = g at stay above
  have laid : (g.push (seqObj "list" pairs.toArray 0)).get? g.objs.size = some (seqObj "list" pairs.toArray 0) := Heap.get?_push_size _ rfl
  have keep : ∀ b u, s.heap.get? b = some u → (g.push (seqObj "list" pairs.toArray 0)).get? b = some u := fun b u old => Heap.get?_push_of_some _ (stay b u old)
  have able := fun two : 0 < pairs.length => Srt.pairs_sortable (prog := prog) (w := w) (A := A.in1.in1) (s := { s with heap := g.push (seqObj "list" pairs.toArray 0) }) (a := g.objs.size) (vs := pairs) two
    (fun v hv => by
      obtain ⟨x, y, p⟩ := each v hv
      exact ⟨x, y, p.keeps fun b u old _ => keep b u old⟩)
    (fun u hu => by
      have q : some (seqObj "list" pairs.toArray 0) = some u := laid.symm.trans hu
      cases q
      exact fun c => absurd (Value.type.inj c) (by decide))
  refine wpAny_bind (wpAny_holding (wpAny_call_entry slot_list_sort ⟨_, laid, rfl⟩ entry_list_sort (Srt.list_sort_any laid room (fun two => able (by omega)) fun out perm => ⟨_, rfl, ?_⟩) (args_list_sort _)))
  obtain ⟨stamp, found⟩ := sortedHeap_at (vs := pairs) (out := out.toArray) laid
  refine wpAny_pure ⟨_, rfl, next _ _ out stamp perm (fun b u old => ?_) above found⟩
  have below : b < g.objs.size := Heap.lt_size (stay b u old)
  have wider : b < (g.push (seqObj "list" pairs.toArray 0)).objs.size := by
    rw [size_push']
    exact Nat.lt_succ_of_lt below
  exact (sortedHeap_old (Nat.ne_of_lt below) wider).trans (keep b u old)
end
section
variable {X : Cx}
/-- sorted(t), t a tuple of pairs of ints: a new list of the same pairs, in some order -/
def rSortTP (K : PySem.W.Frag) : List V → Hp → VK → Prop := fun vs H Q => ∃ a xs, vs = [V.ref a] ∧ SqT K H a xs ∧ (∀ x ∈ xs, ∃ t i j, x = V.ref t ∧ SqT K H t [.int i, .int j]) ∧
  ∀ (ys : List V) (new : Addr), ys.Perm xs → H new = none → Q (.ref new) (upd H new (.lst ys))
theorem cr_sortTP : CallR X (.builtin "sorted") (rSortTP X.K) := by
  intro pins now σ G given us K I r told
  obtain ⟨t, xs, rfl, seen, pairs, told⟩ := told
  obtain ⟨items, alike, there, room⟩ := I.tuple seen
  have len := alike.length
  rw [Vals.ref1 r]
  obtain ⟨back, refs⟩ := refs_back alike fun x hx => by
    obtain ⟨q, _, _, e, _⟩ := pairs x hx
    exact ⟨q, e⟩
  refine sorted_tup there (by omega) (fun v hv => ?_) fun g p out stamp perm old above found => ?_
  · obtain ⟨q, rfl⟩ := refs v hv
    have hx : V.ref q ∈ xs := back ▸ List.mem_map.mpr ⟨_, hv, rfl⟩
    obtain ⟨_, i, j, e, two⟩ := pairs _ hx
    cases e
    obtain ⟨parts, like, ⟨u, hu, cls, n, data⟩, _⟩ := I.tuple two
    obtain ⟨_, _, rfl, ⟨m1, rfl⟩, ⟨m2, rfl⟩⟩ := vals2 like
    exact ⟨i, j, q, u, m1, m2, n, rfl, hu, cls, data⟩
  · have fit : (out.map backV).length ≤ sizeLine := by
      rw [List.length_map, perm.length_eq]
      omega
    have same : (out.map backV).Perm xs := back ▸ perm.map backV
    exact ⟨.ref p, _, I.laid (t' := now.toks) (o := .lst (out.map backV)) old above ⟨fit, out, stamp, vals_back fun u hu => refs u (perm.subset hu), found⟩, rfl, told _ p same (I.hok.fresh above)⟩
end
end DR
namespace DR
open PySem PySem.Spec PyProof.Rows L2
/-! ### sums over rounds -/
theorem rsum_zero (s : Int) : ∀ (n : Nat) (x : Int), rsum (fun _ => 0) s n x = 0
  | 0, _ => rfl
  | n + 1, x => by
    show rsum _ s n x + 0 = 0
    rw [rsum_zero s n x]
    rfl
theorem rsum_add (f g : Int → Int) (s : Int) : ∀ (n : Nat) (x : Int), rsum (fun y => f y + g y) s n x = rsum f s n x + rsum g s n x
  | 0, _ => rfl
  | n + 1, x => by
    show rsum _ s n x + (f _ + g _) = (rsum f s n x + f _) + (rsum g s n x + g _)
    rw [rsum_add f g s n x]
    omega
theorem rsum_mul (c : Int) (f : Int → Int) (s : Int) : ∀ (n : Nat) (x : Int), rsum (fun y => c * f y) s n x = c * rsum f s n x
  | 0, _ => by show 0 = c * 0; rw [Int.mul_zero]
  | n + 1, x => by
    show rsum _ s n x + c * f _ = c * (rsum f s n x + f _)
    rw [rsum_mul c f s n x, Int.mul_add]
theorem rsum_move (f : Int → Int) (s c : Int) : ∀ (n : Nat) (x : Int), rsum (fun y => f (y - c)) s n x = rsum f s n (x - c)
  | 0, _ => rfl
  | n + 1, x => by
    show rsum _ s n x + f (x - n * s - c) = rsum f s n (x - c) + f (x - c - n * s)
    rw [rsum_move f s c n x]
    congr 2
    omega
theorem rsum_swap (f : Int → Int) (a b : Int) (n : Nat) : ∀ (m : Nat) (x : Int), rsum (fun y => rsum f a n y) b m x = rsum (fun y => rsum f b m y) a n x
  | 0, x => by
    show 0 = rsum (fun _ => 0) a n x
    rw [rsum_zero]
  | m + 1, x => by
    show rsum _ b m x + rsum f a n (x - m * b) = rsum (fun y => rsum f b m y + f (y - m * b)) a n x
    rw [rsum_add (fun y => rsum f b m y) (fun y => f (y - m * b)), rsum_swap f a b n m x, rsum_move]
theorem rsum_const (f : Int → Int) : ∀ (n : Nat) (x : Int), rsum f 0 n x = n * f x
  | 0, x => by show 0 = _; simp
  | n + 1, x => by
    show rsum f 0 n x + f (x - n * 0) = _
    rw [rsum_const f n x, Int.mul_zero, Int.sub_zero, Int.natCast_succ, Int.add_mul, Int.one_mul]
/-- counted from the last one -/
theorem rsum_head (f : Int → Int) (s : Int) : ∀ (n : Nat) (x : Int), rsum f s (n + 1) x = f x + rsum f s n (x - s)
  | 0, x => by
    show 0 + f (x - ((0 : Nat) : Int) * s) = f x + 0
    rw [Int.zero_add, Int.add_zero]
    congr 1
    simp
  | n + 1, x => by
    show rsum f s (n + 1) x + f (x - ((n + 1 : Nat) : Int) * s) = f x + (rsum f s n (x - s) + f (x - s - n * s))
    rw [rsum_head f s n x, Int.add_assoc]
    congr 3
    rw [Int.natCast_succ, Int.add_mul, Int.one_mul]
    omega
theorem rsum_back (f : Int → Int) (s : Int) : ∀ (n : Nat) (x : Int), rsum f s (n + 1) x = rsum f (-s) (n + 1) (x - n * s)
  | 0, x => by
    show 0 + f _ = 0 + f _
    congr 2
    simp
  | n + 1, x => by
    rw [rsum_head f (-s) (n + 1)]
    show rsum f s (n + 1) x + f (x - ((n + 1 : Nat) : Int) * s) = _
    rw [rsum_back f s n x, Int.add_comm]
    congr 2
    rw [Int.natCast_succ, Int.add_mul, Int.one_mul]
    omega
/-! ### how many ways rounds reach a place -/
def wy : Pol → Int → Int
  | [], d => if d = 0 then 1 else 0
  | r :: rs, d => rsum (fun y => wy rs y) r.2 r.1.toNat d
theorem wy_nil (d : Int) : wy [] d = if d = 0 then 1 else 0 := rfl
theorem wy_cons (r : Int × Int) (rs : Pol) (d : Int) : wy (r :: rs) d = rsum (fun y => wy rs y) r.2 r.1.toNat d := rfl
theorem wy_perm {r r' : Pol} (h : r.Perm r') : ∀ d, wy r d = wy r' d := by
  induction h with
  | nil => exact fun _ => rfl
  | cons x _ ih =>
    intro d
    rw [wy_cons, wy_cons]
    exact rsum_congr ih _ _
  | swap x y l =>
    intro d
    rw [wy_cons, wy_cons, rsum_congr (g := fun z => rsum (fun w => wy l w) x.2 x.1.toNat z) (fun z => wy_cons x l z), rsum_congr (g := fun z => rsum (fun w => wy l w) y.2 y.1.toNat z) (fun z => wy_cons y l z) x.1.toNat d]
    exact rsum_swap (fun w => wy l w) x.2 y.2 x.1.toNat y.1.toNat d
  | trans _ _ h1 h2 => exact fun d => (h1 d).trans (h2 d)
theorem rsum_bd {f : Int → Int} {s : Int} {M : Int} (h : ∀ x, 0 ≤ f x ∧ f x ≤ M) : ∀ (n : Nat) (x : Int), 0 ≤ rsum f s n x ∧ rsum f s n x ≤ n * M
  | 0, x => by show 0 ≤ 0 ∧ 0 ≤ _; simp
  | n + 1, x => by
    have h1 := rsum_bd h (s := s) n x
    have h2 := h (x - n * s)
    show 0 ≤ rsum f s n x + f _ ∧ rsum f s n x + f _ ≤ _
    rw [Int.natCast_succ, Int.add_mul, Int.one_mul]
    omega
/-- a term: place, coefficient, rounds -/
structure Tm where
  pl : Int
  co : Int
  rs : Pol
def tv (t : Tm) (x : Int) : Int := t.co * wy t.rs (x - t.pl)
def tvs (ts : List Tm) (x : Int) : Int := (ts.map fun t => tv t x).sum
theorem tvs_app (a b : List Tm) (x : Int) : tvs (a ++ b) x = tvs a x + tvs b x := by
  unfold tvs
  rw [List.map_append, List.sum_append]
/-- what a term becomes if it is repeated -/
structure Repd (t : Tm) (n s : Int) (t' : Tm) : Prop where
  val : ∀ x, tv t' x = rsum (fun y => tv t y) s n.toNat x
theorem repd_zero {t : Tm} {n : Int} (hn : 0 < n) : Repd t n 0 ⟨t.pl, t.co * n, t.rs⟩ := ⟨fun x => by
  rw [rsum_const, Int.toNat_of_nonneg (by omega)]
  show t.co * n * _ = n * (t.co * _)
  rw [← Int.mul_assoc, Int.mul_comm n]⟩
theorem repd_one {t : Tm} {s : Int} : Repd t 1 s ⟨t.pl, t.co * 1, t.rs⟩ := ⟨fun x => by
  show t.co * 1 * wy t.rs _ = 0 + tv t (x - ((0 : Nat) : Int) * s)
  rw [Int.mul_one, Int.zero_add]
  show t.co * wy t.rs (x - t.pl) = t.co * wy t.rs (x - ((0 : Nat) : Int) * s - t.pl)
  congr 2
  simp⟩
theorem repd_pos {t : Tm} {n s : Int} {rs : Pol} (hp : rs.Perm (t.rs ++ [(n, s)])) : Repd t n s ⟨t.pl, t.co, rs⟩ := ⟨fun x => by
  show t.co * wy rs (x - t.pl) = rsum (fun y => t.co * wy t.rs (y - t.pl)) s n.toNat x
  rw [rsum_mul, rsum_move (fun z => wy t.rs z), wy_perm (hp.trans List.perm_append_comm)]
  rfl⟩
theorem repd_neg {t : Tm} {n s : Int} {rs : Pol} (hn : 0 < n) (hp : rs.Perm (t.rs ++ [(n, -s)])) : Repd t n s ⟨t.pl + (n - 1) * s, t.co, rs⟩ := ⟨fun x => by
  show t.co * wy rs (x - (t.pl + (n - 1) * s)) = rsum (fun y => t.co * wy t.rs (y - t.pl)) s n.toNat x
  rw [rsum_mul, rsum_move (fun z => wy t.rs z), wy_perm (hp.trans List.perm_append_comm)]
  obtain ⟨m, hm⟩ : ∃ m : Nat, n.toNat = m + 1 := ⟨n.toNat - 1, by omega⟩
  have hm2 : n - 1 = (m : Int) := by omega
  rw [hm, rsum_back, hm2]
  show t.co * rsum _ (-s) n.toNat _ = _
  rw [hm]
  congr 2
  omega⟩
theorem tvs_rep {n s : Int} : ∀ {ts ts' : List Tm}, Paired (fun t t' => Repd t n s t') ts ts' → ∀ x, tvs ts' x = rsum (fun y => tvs ts y) s n.toNat x
  | [], [], _, x => by
    show 0 = rsum (fun _ => 0) s n.toNat x
    rw [rsum_zero]
  | t :: ts, t' :: ts', .cons h q, x => by
    show tv t' x + tvs ts' x = rsum (fun y => tv t y + tvs ts y) s n.toNat x
    rw [rsum_add (fun y => tv t y) (fun y => tvs ts y), h.val, tvs_rep q]
/-! ### the count of pairs -/
theorem div_step {P : Int} (hP : 0 < P) (u : Int) : u / P - (u - 1) / P = if P ∣ u then 1 else 0 := by
  by_cases h : P ∣ u
  · rw [if_pos h]
    obtain ⟨k, rfl⟩ := h
    have e1 : P * k / P = k := Int.mul_ediv_cancel_left k (by omega)
    have e2 : (P * k - 1) / P = k - 1 := by
      have : P * k - 1 = (P - 1) + P * (k - 1) := by rw [Int.mul_sub, Int.mul_one]; omega
      rw [this, Int.add_mul_ediv_left _ _ (by omega), Int.ediv_eq_zero_of_lt (by omega) (by omega)]
      omega
    rw [e1, e2]
    omega
  · rw [if_neg h]
    have h1 := Int.emod_add_mul_ediv u P
    have h2 := Int.emod_nonneg u (show P ≠ 0 by omega)
    have h3 := Int.emod_lt_of_pos u hP
    have h4 : u % P ≠ 0 := fun z => h (Int.dvd_of_emod_eq_zero z)
    generalize u % P = r at h1 h2 h3 h4
    have e : (u - 1) / P = u / P := by
      generalize u / P = q at h1
      have : u - 1 = (r - 1) + P * q := by omega
      rw [this, Int.add_mul_ediv_left _ _ (by omega), Int.ediv_eq_zero_of_lt (by omega) (by omega), Int.zero_add]
    omega
theorem div_mono {P : Int} (hP : 0 < P) {u v : Int} (h : u ≤ v) : u / P ≤ v / P := Int.ediv_le_ediv hP h
def cnt (L G P r : Int) : Nat → Int
  | 0 => 0
  | n + 1 => cnt L G P r n + if L ≤ (n : Int) ∧ (n : Int) ≤ G ∧ P ∣ (n : Int) - r then 1 else 0
theorem cnt_eq {L G P r : Int} (hP : 0 < P) : ∀ n : Nat, cnt L G P r n = max 0 ((min ((n : Int) - 1) G - r) / P - (max 0 L - 1 - r) / P)
  | 0 => by
    have h := div_mono hP (u := min (((0 : Nat) : Int) - 1) G - r) (v := max 0 L - 1 - r) (by omega)
    show (0 : Int) = _
    omega
  | n + 1 => by
    show cnt L G P r n + _ = _
    rw [cnt_eq hP n]
    by_cases h1 : (n : Int) < max 0 L
    · rw [if_neg (by omega)]
      have a := div_mono hP (u := min ((n : Int) - 1) G - r) (v := max 0 L - 1 - r) (by omega)
      have b := div_mono hP (u := min (((n + 1 : Nat) : Int) - 1) G - r) (v := max 0 L - 1 - r) (by omega)
      omega
    · by_cases h2 : (n : Int) ≤ G
      · have e1 : min (((n + 1 : Nat) : Int) - 1) G = (n : Int) := by omega
        have e2 : min ((n : Int) - 1) G = (n : Int) - 1 := by omega
        rw [e1, e2]
        have a := div_mono hP (u := max 0 L - 1 - r) (v := (n : Int) - 1 - r) (by omega)
        have b := div_mono hP (u := max 0 L - 1 - r) (v := (n : Int) - r) (by omega)
        have c := div_step hP ((n : Int) - r)
        rw [show (n : Int) - r - 1 = (n : Int) - 1 - r by omega] at c
        by_cases h3 : P ∣ (n : Int) - r
        · rw [if_pos ⟨by omega, h2, h3⟩]
          rw [if_pos h3] at c
          omega
        · rw [if_neg (fun z => h3 z.2.2)]
          rw [if_neg h3] at c
          omega
      · rw [if_neg (by omega)]
        have e1 : min (((n + 1 : Nat) : Int) - 1) G = G := by omega
        have e2 : min ((n : Int) - 1) G = G := by omega
        rw [e1, e2, Int.add_zero]
/-- one round -/
theorem wy_one {b : Int} (hb : 0 < b) : ∀ (m : Nat) (e : Int), rsum (fun y => if y = 0 then (1 : Int) else 0) b m e = if b ∣ e ∧ 0 ≤ e ∧ e < m * b then 1 else 0
  | 0, e => by
    rw [if_neg (by rintro ⟨_, h1, h2⟩; simp at h2; omega)]
    rfl
  | m + 1, e => by
    show rsum _ b m e + (if e - m * b = 0 then 1 else 0) = _
    rw [wy_one hb m e, Int.natCast_succ, Int.add_mul, Int.one_mul]
    have hmb : 0 ≤ (m : Int) * b := Int.mul_nonneg (by omega) (by omega)
    by_cases h : e - m * b = 0
    · have he : e = m * b := by omega
      rw [if_pos h, if_neg (by omega), if_pos ⟨by rw [he]; exact Int.dvd_mul_left _ _, by omega, by omega⟩]
      try rfl
    · rw [if_neg h, Int.add_zero]
      by_cases h2 : b ∣ e ∧ 0 ≤ e ∧ e < m * b
      · rw [if_pos h2, if_pos ⟨h2.1, h2.2.1, by omega⟩]
      · rw [if_neg h2, if_neg fun z => ?_]
        obtain ⟨k, rfl⟩ := z.1
        apply h2
        refine ⟨z.1, z.2.1, ?_⟩
        have h3 : b * k < b * ((m : Int) + 1) := by rw [Int.mul_add, Int.mul_one, Int.mul_comm b m]; exact z.2.2
        have h4 : k < (m : Int) + 1 := Int.lt_of_mul_lt_mul_left h3 (by omega)
        have h5 : k ≠ (m : Int) := fun q => h (by rw [q, Int.mul_comm]; omega)
        have h6 : b * k < b * (m : Int) := Int.mul_lt_mul_of_pos_left (by omega) hb
        rw [Int.mul_comm b m] at h6
        exact h6
/-- two rounds: the pairs of an equation -/
theorem wy_two {a b d g f : Int} {m : Nat} (ha : 0 < a) (hb : 0 < b) (hg : 0 < g) (ga : g ∣ a) (gb : g ∣ b) (hf : b ∣ a * f - g) (gd : g ∣ d) : ∀ n : Nat,
    rsum (fun y => rsum (fun z => if z = 0 then (1 : Int) else 0) b m y) a n d = cnt (-((b * ((m : Int) - 1) - d) / a)) (d / a) (b / g) (d / g * f % (b / g)) n
  | 0 => rfl
  | n + 1 => by
    show rsum _ a n d + rsum _ b m (d - n * a) = cnt _ _ _ _ n + _
    rw [wy_two ha hb hg ga gb hf gd n, wy_one hb]
    congr 1
    obtain ⟨a', rfl⟩ := ga
    obtain ⟨P, rfl⟩ := gb
    obtain ⟨d', rfl⟩ := gd
    have hP : 0 < P := Int.pos_of_mul_pos_right hb (by omega)
    have e1 : g * P / g = P := Int.mul_ediv_cancel_left P (by omega)
    have e2 : g * d' / g = d' := Int.mul_ediv_cancel_left d' (by omega)
    rw [e1, e2]
    -- a' * f is 1 modulo P
    have hf' : P ∣ a' * f - 1 := by
      obtain ⟨t, ht⟩ := hf
      refine ⟨t, ?_⟩
      have : g * (a' * f - 1) = g * (P * t) := by
        rw [Int.mul_sub, Int.mul_one, ← Int.mul_assoc, ← Int.mul_assoc]
        exact ht
      exact Int.eq_of_mul_eq_mul_left (by omega) this
    have key : (g * P ∣ g * d' - n * (g * a')) ↔ P ∣ (n : Int) - d' * f % P := by
      have r1 : P ∣ (n : Int) - d' * f % P ↔ P ∣ (n : Int) - d' * f := by
        have h := Int.emod_add_mul_ediv (d' * f) P
        constructor
        · rintro ⟨t, ht⟩
          exact ⟨t - d' * f / P, by rw [Int.mul_sub]; omega⟩
        · rintro ⟨t, ht⟩
          exact ⟨t + d' * f / P, by rw [Int.mul_add]; omega⟩
      rw [r1]
      obtain ⟨t, ht⟩ := hf'
      have e3 : g * d' - (n : Int) * (g * a') = g * (d' - n * a') := by
        rw [Int.mul_sub, ← Int.mul_assoc, ← Int.mul_assoc, Int.mul_comm (n : Int) g]
      rw [e3]
      constructor
      · rintro ⟨u, hu⟩
        rw [Int.mul_assoc] at hu
        have hu' : d' - n * a' = P * u := Int.eq_of_mul_eq_mul_left (by omega) hu
        -- n = n a' f - n P t ; d' f = (P u + n a') f
        refine ⟨-(u * f) - n * t, ?_⟩
        have h5 : d' = P * u + n * a' := by omega
        rw [h5, Int.add_mul, Int.mul_sub, Int.mul_neg]
        have h6 : (n : Int) * a' * f = n * (P * t) + n := by
          rw [Int.mul_assoc, show a' * f = P * t + 1 by omega, Int.mul_add, Int.mul_one]
        rw [h6, ← Int.mul_assoc P u f, ← Int.mul_assoc (n : Int) P t, ← Int.mul_assoc P (n : Int) t, Int.mul_comm P (n : Int)]
        omega
      · rintro ⟨u, hu⟩
        refine ⟨-(u * a') - d' * t, ?_⟩
        rw [Int.mul_assoc]
        congr 1
        have h5 : (n : Int) = P * u + d' * f := by omega
        have h6 : d' * f * a' = d' * (P * t) + d' := by
          rw [Int.mul_assoc, Int.mul_comm f a', show a' * f = P * t + 1 by omega, Int.mul_add, Int.mul_one]
        rw [h5, Int.add_mul, h6, Int.mul_sub, Int.mul_neg, ← Int.mul_assoc P u a', ← Int.mul_assoc d' P t, ← Int.mul_assoc P d' t, Int.mul_comm P d']
        omega
    have low : (0 ≤ g * d' - n * (g * a')) ↔ (n : Int) ≤ g * d' / (g * a') := by
      rw [Int.le_ediv_iff_mul_le ha]
      omega
    have high : g * P ∣ g * d' - n * (g * a') → ((g * d' - n * (g * a') < m * (g * P)) ↔ -((g * P * ((m : Int) - 1) - g * d') / (g * a')) ≤ (n : Int)) := by
      rintro ⟨u, hu⟩
      have h1 : (g * d' - n * (g * a') < m * (g * P)) ↔ g * d' - n * (g * a') ≤ g * P * ((m : Int) - 1) := by
        rw [hu, Int.mul_comm (m : Int)]
        constructor
        · intro h
          have := Int.lt_of_mul_lt_mul_left h (by omega)
          exact Int.mul_le_mul_of_nonneg_left (by omega) (by omega)
        · intro h
          have := Int.le_of_mul_le_mul_left h hb
          exact Int.mul_lt_mul_of_pos_left (by omega) hb
      rw [h1]
      have h2 : -(n : Int) ≤ (g * P * ((m : Int) - 1) - g * d') / (g * a') ↔ -(n : Int) * (g * a') ≤ g * P * ((m : Int) - 1) - g * d' := Int.le_ediv_iff_mul_le ha
      rw [Int.neg_mul] at h2
      constructor
      · intro h
        have := h2.mpr (by omega)
        omega
      · intro h
        have := h2.mp (by omega)
        omega
    by_cases hd : g * P ∣ g * d' - n * (g * a')
    · have hh := high hd
      by_cases hc : 0 ≤ g * d' - n * (g * a') ∧ g * d' - n * (g * a') < m * (g * P)
      · rw [if_pos ⟨hd, hc⟩, if_pos ⟨hh.mp hc.2, low.mp hc.1, key.mp hd⟩]
      · rw [if_neg (fun z => hc z.2), if_neg (fun z => hc ⟨low.mpr z.2.1, hh.mpr z.1⟩)]
    · rw [if_neg (fun z => hd z.1), if_neg (fun z => hd (key.mpr z.2.2))]
/-- no pair where the divisor does not divide -/
theorem wy_none {a b d g : Int} {m : Nat} (hb : 0 < b) (ga : g ∣ a) (gb : g ∣ b) (gd : ¬ g ∣ d) : ∀ n : Nat, rsum (fun y => rsum (fun z => if z = 0 then (1 : Int) else 0) b m y) a n d = 0
  | 0 => rfl
  | n + 1 => by
    show rsum _ a n d + rsum _ b m (d - n * a) = 0
    rw [wy_none hb ga gb gd n, wy_one hb, if_neg fun z => ?_]
    · rfl
    · obtain ⟨a', rfl⟩ := ga
      have h1 := Int.dvd_trans gb z.1
      have h2 : g ∣ (n : Int) * (g * a') := ⟨n * a', by rw [← Int.mul_assoc, ← Int.mul_assoc, Int.mul_comm (n : Int) g]⟩
      have h3 := Int.dvd_add h1 h2
      rw [Int.sub_add_cancel] at h3
      exact gd h3
end DR
namespace DR
open PySem PySem.Spec PyProof.Rows L2
theorem ediv_bd {d g : Int} (hg : 0 < g) : (d / g).natAbs ≤ d.natAbs := by
  have h1 := Int.emod_add_mul_ediv d g
  have h2 := Int.emod_nonneg d (show g ≠ 0 by omega)
  have h3 := Int.emod_lt_of_pos d hg
  by_cases h0 : 0 ≤ d
  · have a := Int.ediv_nonneg h0 (show 0 ≤ g by omega)
    have b := Int.ediv_le_self g h0
    omega
  · have a : d ≤ d / g := (Int.le_ediv_iff_mul_le hg).mpr (by
      have := Int.mul_le_mul_of_nonpos_left (show d ≤ 0 by omega) (show (1 : Int) ≤ g by omega)
      rw [Int.mul_one] at this
      exact this)
    have b : d / g < 0 := Int.ediv_neg_of_neg_of_pos (by omega) hg
    omega
def RsOk (rs : Pol) : Prop := ∀ r ∈ rs, 1 ≤ r.1 ∧ r.1 ≤ 2 ^ 100 ∧ 1 ≤ r.2 ∧ r.2 ≤ 2 ^ 331
def TermV (K : PySem.W.Frag) (H : Hp) (v : V) (t : Tm) : Prop := ∃ a x, v = .ref a ∧ SqT K H a [.int t.pl, .int t.co, x] ∧ TPol K H x t.rs
abbrev TVs (K : PySem.W.Frag) (H : Hp) : List V → List Tm → Prop := Paired (TermV K H)
section
variable {K : PySem.W.Frag} {H H' : Hp} {v x : V} {t : Tm} {xs ys : List V} {ts us : List Tm}
theorem TermV.tp (e : Tp H H') (h : TermV K H v t) : TermV K H' v t := by
  obtain ⟨a, x, rfl, hs, hx⟩ := h
  exact ⟨a, x, rfl, tp_t e hs, hx.tp e⟩
theorem TVs.tp (e : Tp H H') : ∀ {xs : List V} {ts : List Tm}, TVs K H xs ts → TVs K H' xs ts
  | _, _, .nil => .nil
  | _, _, .cons r q => .cons (r.tp e) (TVs.tp e q)
theorem TVs.app : ∀ {xs : List V} {ts : List Tm}, TVs K H xs ts → TVs K H ys us → TVs K H (xs ++ ys) (ts ++ us)
  | _, _, .nil, h => h
  | _, _, .cons r q, h => .cons r (TVs.app q h)
theorem TVs.len (h : TVs K H xs ts) : xs.length = ts.length := Paired.length h
theorem TVs.get : ∀ {xs : List V} {ts : List Tm} {i : Nat} {x : V}, TVs K H xs ts → xs[i]? = some x → ∃ t, ts[i]? = some t ∧ TermV K H x t
  | _, _, _, _, .nil, e => by simp at e
  | _, _, 0, _, .cons r _, e => by
    simp at e
    subst e
    exact ⟨_, rfl, r⟩
  | _, _, i + 1, x, .cons _ q, e => by
    obtain ⟨t, h1, h2⟩ := TVs.get (i := i) (x := x) q (by simpa using e)
    exact ⟨t, by simpa using h1, h2⟩
end
/-- bounds of a term of a program run from pl -/
structure TOk (k : Nat) (T pl : Int) (t : Tm) : Prop where
  at_ : ((t.pl - pl).natAbs : Int) ≤ T
  co : t.co.natAbs ≤ 2 ^ (100 * k)
  len : t.rs.length + 1 ≤ k
  rs : RsOk t.rs
theorem TOk.up {k k' : Nat} {T T' pl : Int} {t : Tm} (h : TOk k T pl t) (a : k ≤ k') (b : T ≤ T') : TOk k' T' pl t := ⟨Int.le_trans h.at_ b, Nat.le_trans h.co (pow_le2 (by omega)), Nat.le_trans h.len a, h.rs⟩
def sp_common_divisor : Sp := fun vs H Q _ => ∃ (a b : Int), vs = [.int a, .int b] ∧ 0 < a ∧ 0 < b ∧ a.natAbs < 2 ^ 400 ∧ b.natAbs < 2 ^ 400 ∧
  ∀ t H' g f, Same H H' → H' t = some (.tup [.int g, .int f]) → 0 < g → g ∣ a → g ∣ b → b ∣ a * f - g → f.natAbs ≤ b.natAbs → Q (.ref t) H'
def sp_pairs_at (K : PySem.W.Frag) : Sp := fun vs H Q _ => ∃ (x y : V) (n a m b d : Int), vs = [x, y, .int d] ∧ IsPr K H x (n, a) ∧ IsPr K H y (m, b) ∧ 1 ≤ n ∧ n ≤ 2 ^ 100 ∧ 1 ≤ m ∧ m ≤ 2 ^ 100 ∧ 1 ≤ a ∧ a ≤ 2 ^ 331 ∧ 1 ≤ b ∧ b ≤ 2 ^ 331 ∧ d.natAbs < 2 ^ 400 ∧
  ∀ H', Same H H' → Q (.int (wy [(n, a), (m, b)] d)) H'
def sp_ways_at (K : PySem.W.Frag) : Sp := fun vs H Q _ => ∃ (v : V) (rs : Pol) (d : Int), vs = [v, .int d] ∧ TPol K H v rs ∧ rs.length ≤ 2 ∧ RsOk rs ∧ d.natAbs < 2 ^ 400 ∧ ∀ H', Same H H' → Q (.int (wy rs d)) H'
def sp_value_of (K : PySem.W.Frag) : Sp := fun vs H Q _ => ∃ (p : Int) (D : Addr) (ys : List V) (ts : List Tm) (x pl T : Int), vs = [.int p, .ref D, .int x] ∧ 0 < p ∧ SqL K H D ys ∧ TVs K H ys ts ∧ ts.length ≤ 100000 ∧ (∀ t ∈ ts, TOk 3 T pl t) ∧ T.natAbs ≤ 2 ^ 330 ∧ (x - pl).natAbs ≤ 2 ^ 340 ∧
  ∀ H', Same H H' → Q (.int (tvs ts x % p)) H'
theorem wy_pad1 (r : Int × Int) (d : Int) : wy [r, (1, 1)] d = wy [r] d := by
  rw [wy_cons, wy_cons]
  refine rsum_congr (fun y => ?_) _ _
  show (0 + if y - ((0 : Nat) : Int) * 1 = 0 then (1 : Int) else 0) = if y = 0 then 1 else 0
  simp
theorem wy_bd : ∀ (rs : Pol) (d : Int), 0 ≤ wy rs d ∧ wy rs d ≤ (rs.map fun r => (r.1.toNat : Int)).foldr (· * ·) 1
  | [], d => by
    rw [wy_nil]
    show _ ∧ _ ≤ (1 : Int)
    split <;> omega
  | r :: rs, d => by
    rw [wy_cons]
    exact rsum_bd (fun x => wy_bd rs x) _ _
theorem wy_lt {rs : Pol} (h : RsOk rs) (hl : rs.length ≤ 2) (d : Int) : (wy rs d).natAbs < 2 ^ 201 := by
  have hb := wy_bd rs d
  have e : ∀ r ∈ rs, (r.1.toNat : Int) ≤ 2 ^ 100 := fun r hr => by
    have := h r hr
    omega
  have hM : (rs.map fun r => (r.1.toNat : Int)).foldr (· * ·) 1 ≤ 2 ^ 200 := by
    match rs, hl, e with
    | [], _, _ => decide
    | [r], _, e =>
      have := e r (by simp)
      show (r.1.toNat : Int) * 1 ≤ _
      rw [Int.mul_one]
      exact Int.le_trans this (by decide +kernel)
    | [r, q], _, e =>
      have h1 := e r (by simp)
      have h2 := e q (by simp)
      show (r.1.toNat : Int) * ((q.1.toNat : Int) * 1) ≤ _
      rw [Int.mul_one]
      exact Int.le_trans (Int.mul_le_mul h1 h2 (by omega) (by decide +kernel)) (by decide +kernel)
  have h2 : (2 : Nat) ^ 200 < 2 ^ 201 := by decide +kernel
  have h3 : ((2 : Int) ^ 200) = ((2 ^ 200 : Nat) : Int) := by decide +kernel
  omega
/-- [an int for x, y, z in a list of terms] -/
theorem lcTm {K : PySem.W.Frag} {a : Addr} {xs : List V} {ts : List Tm} {σ : L2.St} {H : Hp} {vs : List Nat} {i j l : Nat} {te tv' : TE} {Q : VK} (G : Tm → Int) (hv : ∀ R : VK, R (.ref a) H → tv' σ H R) (hs : SqL K H a xs) (hP : TVs K H xs ts) (hl : ts.length ≤ 100000)
    (hw : ∀ x y z, wipe ((((wipe σ vs).set i (some x)).set j (some y)).set l (some z)) vs = wipe σ vs)
    (he : ∀ t ∈ ts, ∀ x H2, Same H H2 → TPol K H2 x t.rs → ∀ R : VK, (∀ H3, Same H2 H3 → R (.int (G t)) H3) → te ((((wipe σ vs).set i (some (.int t.pl))).set j (some (.int t.co))).set l (some x)) H2 R)
    (k : ∀ D H2, H D = none → Same H H2 → H2 D = some (.lst ((ts.map G).map V.int)) → Q (.ref D) H2) : tLc (iList K tv') (gTup K 3 (gCons (gName i) (gCons (gName j) (gCons (gName l) gNil)))) tYes te vs σ H Q := by
  refine hv _ ⟨a, rfl, ⟨_, hs⟩, fun D nD => lc_list (K := K) (a := a) (xs := xs) (fun m H2 => Same H H2 ∧ H2 D = some (.lst (((ts.take m).map G).map V.int))) ⟨same_new nD, upd_same⟩ (fun m H2 _ g => same_l g.1 hs) ?_ ?_⟩
  · rintro m x H2 hm ⟨s2, h2⟩
    obtain ⟨t, ht, b, y, rfl, hb, hy⟩ := hP.get hm
    refine ⟨b, _, rfl, same_t s2 hb, rfl, _, _, rfl, _, _, rfl, _, _, rfl, rfl, hw _ _ _, ?_⟩
    dsimp only [tYes]
    rw [if_pos rfl]
    have hm2 : m < ts.length := (List.getElem?_eq_some_iff.mp ht).1
    refine he t (List.mem_of_getElem? ht) y H2 s2 (hy.tp (Same.tp s2)) _ fun H3 s3 => ⟨_, s3 _ _ h2, sl_lt (by rw [List.length_map, List.length_map, List.length_take]; omega), same_mut (s2.trans s3) nD, ?_⟩
    rw [upd_same, take_snoc ht, List.map_append, List.map_append]
    rfl
  · rintro H2 ⟨s2, h2⟩
    rw [hP.len, List.take_length] at h2
    exact k D H2 nD s2 h2
theorem lcRepG {K : PySem.W.Frag} {σ : L2.St} {H : Hp} {vs : List Nat} {i : Nat} {te tv' : TE} {Q : VK} (P : Tm → Tm → Prop) (Z : List Tm → Prop) (hv : ∀ R : VK, (∀ a xs ts H1, Same H H1 → H1 a = some (.lst xs) → TVs K H1 xs ts → Z ts → R (.ref a) H1) → tv' σ H R) (hZ : ∀ ts, Z ts → ts.length ≤ 100000)
    (hw : ∀ x, wipe ((wipe σ vs).set i (some x)) vs = wipe σ vs)
    (he : ∀ ts, Z ts → ∀ t ∈ ts, ∀ x H2, Same H H2 → TermV K H2 x t → ∀ R : VK, (∀ u t' H3, Same H2 H3 → TermV K H3 u t' → P t t' → R u H3) → te ((wipe σ vs).set i (some x)) H2 R)
    (k : ∀ D H2 ys ts us, H D = none → Same H H2 → H2 D = some (.lst ys) → TVs K H2 ys us → Z ts → Paired P ts us → Q (.ref D) H2) : tLc (iList K tv') (gName i) tYes te vs σ H Q := by
  refine hv _ fun a xs ts H1 s1 hs hP hz => ?_
  have hl := hZ ts hz
  have nn : ∀ {D : Addr}, H1 D = none → H D = none := fun {D} n => by
    cases hh : H D with
    | none => rfl
    | some o => rw [s1 _ _ hh] at n; cases n
  refine ⟨a, rfl, ⟨_, SqL.of hs⟩, fun D nD => lc_list (K := K) (a := a) (xs := xs) (fun m H2 => Same H1 H2 ∧ ∃ ys us, H2 D = some (.lst ys) ∧ TVs K H2 ys us ∧ Paired P (ts.take m) us) ⟨same_new nD, [], [], upd_same, .nil, by rw [List.take_zero]; exact .nil⟩ (fun m H2 _ g => SqL.of (g.1 _ _ hs)) ?_ ?_⟩
  · rintro m x H2 hm ⟨s2, ys, us, h2, hY, hPd⟩
    obtain ⟨t, ht, hx⟩ := hP.get hm
    refine ⟨hw _, ?_⟩
    dsimp only [tYes]
    rw [if_pos rfl]
    have hm2 : m < ts.length := (List.getElem?_eq_some_iff.mp ht).1
    have hyl : ys.length ≤ m := by
      rw [hY.len, ← Paired.length hPd, List.length_take]
      omega
    refine he ts hz t (List.mem_of_getElem? ht) x H2 (s1.trans s2) (hx.tp (Same.tp s2)) _ fun u t' H3 s3 hu hp => ⟨ys, s3 _ _ h2, sl_lt (by omega), same_mut (s2.trans s3) nD, ys ++ [u], us ++ [t'], upd_same, TVs.app (hY.tp ((Same.tp s3).trans (tp_lst (s3 _ _ h2)))) (.cons (hu.tp (tp_lst (s3 _ _ h2))) .nil), ?_⟩
    rw [take_snoc ht]
    have app : ∀ {l1 l2 : List Tm}, Paired P l1 l2 → Paired P (l1 ++ [t]) (l2 ++ [t']) := by
      intro l1 l2 h
      induction h with
      | nil => exact .cons hp .nil
      | cons r _ ih => exact .cons r ih
    exact app hPd
  · rintro H2 ⟨s2, ys, us, h2, hY, hPd⟩
    rw [hP.len, List.take_length] at hPd
    exact k D H2 ys ts us (nn nD) (s1.trans s2) h2 hY hz hPd
theorem trP_app : ∀ (a b : List Ins), trP (a ++ b) = trP a + trP b
  | [], b => by rw [List.nil_append, trP_nil, Int.zero_add]
  | i :: r, b => by rw [List.cons_append, trP_cons, trP_cons, trP_app r b, Int.add_assoc]
theorem trP_snoc {b : List Ins} {j : Nat} {i : Ins} (h : b[j]? = some i) : trP (b.take (j + 1)) = trP (b.take j) + trI i := by
  rw [take_snoc h, trP_app, trP_cons, trP_nil, Int.add_zero]
theorem trP_take : ∀ (b : List Ins) (j : Nat), trP (b.take j) ≤ trP b
  | [], _ => by rw [List.take_nil]; exact Int.le_refl _
  | i :: r, 0 => by
    rw [List.take_zero, trP_nil]
    exact trP_nn _
  | i :: r, j + 1 => by
    rw [List.take_succ_cons, trP_cons, trP_cons]
    have := trP_take r j
    omega
theorem cnP_snoc' {b : List Ins} {j : Nat} {i : Ins} (h : b[j]? = some i) : cnP (b.take (j + 1)) = cnP (b.take j) + cnI i := by
  rw [take_snoc h, cnP_app, cnP_cons, show cnP [] = 0 by unfold cnP; rfl]
  rfl
theorem cnP_take' : ∀ (b : List Ins) (j : Nat), cnP (b.take j) ≤ cnP b
  | [], _ => by rw [List.take_nil]; exact Nat.le_refl _
  | i :: r, 0 => by rw [List.take_zero, show cnP [] = 0 by unfold cnP; rfl]; exact Nat.zero_le _
  | i :: r, j + 1 => by
    rw [List.take_succ_cons, cnP_cons, cnP_cons]
    have := cnP_take' r j
    omega
theorem prs_perm {K : PySem.W.Frag} {H : Hp} {ys zs : List V} (h : ys.Perm zs) : ∀ {f : Pol}, Prs K H zs f → ∃ g, Prs K H ys g ∧ g.Perm f := by
  induction h with
  | nil =>
    intro f hf
    cases hf
    exact ⟨[], .nil, .nil⟩
  | cons x _ ih =>
    intro f hf
    cases hf with
    | cons r q =>
      obtain ⟨g, h1, h2⟩ := ih q
      exact ⟨_ :: g, .cons r h1, h2.cons _⟩
  | swap x y l =>
    intro f hf
    cases hf with
    | cons r q =>
      cases q with
      | cons r2 q2 => exact ⟨_, .cons r2 (.cons r q2), .swap _ _ _⟩
  | trans _ _ h1 h2 =>
    intro f hf
    obtain ⟨g, a1, a2⟩ := h2 hf
    obtain ⟨g', b1, b2⟩ := h1 a1
    exact ⟨g', b1, b2.trans a2⟩
end DR
/-! ### the least and the greatest place where a sum of terms is not 0 -/
namespace DR
open PySem PySem.Spec PyProof.Rows L2
/-- the greatest and the least place with something left -/
structure Ends1 (p : Int) (F : Int → Int) (lo hi : Int) : Prop where
  atLo : ¬ p ∣ F lo
  atHi : ¬ p ∣ F hi
  below : ∀ x, x < lo → p ∣ F x
  above : ∀ x, hi < x → p ∣ F x
/-! ### groups: rounds, and what is multiplied by them -/
def mv (m : Pol) (f : Int → Int) (x : Int) : Int := (m.map fun t => t.2 * f (x - t.1)).sum
theorem mv_nil (f : Int → Int) (x : Int) : mv [] f x = 0 := rfl
theorem mv_cons (t : Int × Int) (r : Pol) (f : Int → Int) (x : Int) : mv (t :: r) f x = t.2 * f (x - t.1) + mv r f x := by
  unfold mv
  rw [List.map_cons, List.sum_cons]
theorem mv_put {f : Int → Int} {e v : Int} (x : Int) : ∀ {m : Pol}, (m.map (·.1)).Nodup → mv (put m e v) f x = mv m f x + (v - cf m e) * f (x - e)
  | [], _ => by
    rw [put_new (List.not_mem_nil), List.nil_append, mv_cons, mv_nil, cf_nil, Int.sub_zero]
    show v * f (x - e) + 0 = 0 + v * f (x - e)
    rw [Int.add_zero, Int.zero_add]
  | t :: r, n => by
    have nn := List.nodup_cons.mp (show (t.1 :: r.map (·.1)).Nodup from n)
    by_cases q : t.1 = e
    · have : put (t :: r) e v = (t.1, v) :: r := by
        rw [put, if_pos q, q]
      rw [this, mv_cons, mv_cons, cf_cons, if_pos q, cf_out (f := r) (e := e) (by rw [← q]; exact nn.1), q]
      show v * _ + _ = _
      rw [Int.add_zero, Int.sub_mul]
      omega
    · have : put (t :: r) e v = t :: put r e v := by
        rw [put, if_neg q]
      rw [this, mv_cons, mv_cons, mv_put x nn.2, cf_cons, if_neg q, Int.zero_add]
      omega
abbrev Grp := List (Pol × Pol)
def gv (G : Grp) (x : Int) : Int := (G.map fun g => mv g.2 (wy g.1) x).sum
theorem gv_nil (x : Int) : gv [] x = 0 := rfl
theorem gv_cons (g : Pol × Pol) (G : Grp) (x : Int) : gv (g :: G) x = mv g.2 (wy g.1) x + gv G x := by
  unfold gv
  rw [List.map_cons, List.sum_cons]
theorem gv_app (A B : Grp) (x : Int) : gv (A ++ B) x = gv A x + gv B x := by
  unfold gv
  rw [List.map_append, List.sum_append]
/-- what stands under a key -/
def gAt (G : Grp) (r : Pol) : Option Pol := (G.find? fun g => decide (g.1 = r)).map (·.2)
/-- m under r instead of what is there, or behind all -/
def gSet (G : Grp) (r m : Pol) : Grp := if (gAt G r).isSome = true then G.map (fun g => if g.1 = r then (g.1, m) else g) else G ++ [(r, m)]
theorem gAt_cons (g : Pol × Pol) (G : Grp) (r : Pol) : gAt (g :: G) r = if g.1 = r then some g.2 else gAt G r := by
  unfold gAt
  rw [List.find?_cons]
  by_cases e : g.1 = r
  · rw [decide_eq_true e, if_pos e]
    rfl
  · rw [decide_eq_false e, if_neg e]
theorem gAt_none {G : Grp} {r : Pol} (h : gAt G r = none) : r ∉ G.map (·.1) := by
  induction G with
  | nil => exact List.not_mem_nil
  | cons g G ih =>
    rw [gAt_cons] at h
    by_cases e : g.1 = r
    · rw [if_pos e] at h
      cases h
    · rw [if_neg e] at h
      intro z
      rcases List.mem_cons.mp (show r ∈ g.1 :: G.map (·.1) from z) with y | y
      · exact e y.symm
      · exact ih h y
theorem gSet_keys {G : Grp} {r m : Pol} (h : (gAt G r).isSome = true) : (gSet G r m).map (·.1) = G.map (·.1) := by
  unfold gSet
  rw [if_pos h, List.map_map]
  refine List.map_congr_left fun g _ => ?_
  show (if g.1 = r then (g.1, m) else g).1 = g.1
  split <;> rfl
theorem gSet_nodup {G : Grp} {r m : Pol} (n : (G.map (·.1)).Nodup) : ((gSet G r m).map (·.1)).Nodup := by
  cases h : gAt G r with
  | none =>
    have out := gAt_none h
    unfold gSet
    rw [h]
    show ((G ++ [(r, m)]).map (·.1)).Nodup
    rw [List.map_append]
    exact List.nodup_append.mpr ⟨n, List.nodup_cons.mpr ⟨List.not_mem_nil, List.nodup_nil⟩, fun a ha b hb e => by
      cases List.mem_singleton.mp hb
      exact out ((show a = r from e) ▸ ha)⟩
  | some m0 =>
    rw [gSet_keys (by rw [h]; rfl)]
    exact n
/-- what is added by a change -/
theorem gv_set {G : Grp} {r m : Pol} (x : Int) (n : (G.map (·.1)).Nodup) : gv (gSet G r m) x = gv G x + (mv m (wy r) x - mv ((gAt G r).getD []) (wy r) x) := by
  cases h : gAt G r with
  | none =>
    unfold gSet
    rw [h]
    show gv (G ++ [(r, m)]) x = _
    rw [gv_app, gv_cons, gv_nil]
    show _ = gv G x + (mv m (wy r) x - mv [] (wy r) x)
    rw [mv_nil]
    show gv G x + (mv m (wy r) x + 0) = _
    omega
  | some m0 =>
    unfold gSet
    rw [h]
    show gv (G.map fun g => if g.1 = r then (g.1, m) else g) x = gv G x + (mv m (wy r) x - mv m0 (wy r) x)
    induction G with
    | nil => cases h
    | cons g G ih =>
      have nn := List.nodup_cons.mp (show (g.1 :: G.map (·.1)).Nodup from n)
      rw [gAt_cons] at h
      rw [List.map_cons, gv_cons, gv_cons]
      by_cases e : g.1 = r
      · rw [if_pos e] at h ⊢
        have rest : (G.map fun g => if g.1 = r then (g.1, m) else g) = G := by
          have : ∀ u ∈ G, (if u.1 = r then (u.1, m) else u) = id u := fun u hu => if_neg fun z => nn.1 (by rw [e, ← z]; exact List.mem_map_of_mem hu)
          rw [List.map_congr_left this, List.map_id]
        rw [rest, ← Option.some.inj h, e]
        show mv m (wy r) x + gv G x = mv g.2 (wy r) x + gv G x + (mv m (wy r) x - mv g.2 (wy r) x)
        omega
      · rw [if_neg e] at h ⊢
        rw [ih nn.2 h]
        omega
/-! without what the prime divides -/
def zr (p : Int) (m : Pol) : Pol := (m.map fun t => (t.1, t.2 % p)).filter fun t => decide (t.2 ≠ 0)
/-! one stride less -/
def dropS (s : Int) : Pol → Pol
  | [] => []
  | r :: rs => if r.2 = s then rs else r :: dropS s rs
/-- how often a stride stands there -/
def sct (s : Int) (rs : Pol) : Nat := (rs.map (·.2)).count s
theorem sct_drop (s u : Int) : ∀ rs : Pol, sct u (dropS s rs) = if u = s then sct u rs - 1 else sct u rs
  | [] => by
    show 0 = if u = s then 0 - 1 else 0
    split <;> rfl
  | r :: rs => by
    have ih := sct_drop s u rs
    unfold dropS
    unfold sct at ih ⊢
    by_cases e : r.2 = s
    · rw [if_pos e, List.map_cons, List.count_cons, e]
      by_cases z : u = s
      · rw [if_pos z, z, if_pos (by rw [beq_self_eq_true])]
        omega
      · rw [if_neg z, if_neg (fun y => z (eq_of_beq y).symm)]
        omega
    · rw [if_neg e, List.map_cons, List.count_cons, ih, List.map_cons, List.count_cons]
      by_cases z : u = s
      · rw [if_pos z, if_pos z, z, if_neg (fun y => e (eq_of_beq y))]
        omega
      · rw [if_neg z, if_neg z]
theorem dropS_len (s : Int) (rs : Pol) : (dropS s rs).length ≤ rs.length := by
  induction rs with
  | nil => exact Nat.le_refl _
  | cons r rs ih =>
    unfold dropS
    split
    · exact Nat.le_succ _
    · exact Nat.succ_le_succ ih
theorem dropS_sub (s : Int) : ∀ (rs : Pol), ∀ r ∈ dropS s rs, r ∈ rs
  | [], _, h => h
  | t :: rs, r, h => by
    unfold dropS at h
    split at h
    · exact List.mem_cons_of_mem t h
    · rcases List.mem_cons.mp h with e | h
      · exact e ▸ List.mem_cons_self
      · exact List.mem_cons_of_mem t (dropS_sub s rs r h)
end DR
namespace PySem.SeqAt
open AutoSeq1 (wpAny_loadPart')
open MeetsSeq MeetsSeq2 MeetsSeq3
end PySem.SeqAt
namespace L2
open PySem PySem.Spec PyProof.Rows PySem.W
section
variable {X : Cx} {pos : Pos} {es : List Expr} {t : TA}
/-- a plain tuple is laid and known by its object -/
theorem plain_laid {pins : List (Addr × Obj)} {σ : St} {H : Hp} {s : Shared} {vals : List Value} {ys : List V} (J : Inv X pins σ H s) (rv : Vals ys vals) (hz : ys.length ≤ sizeLine) :
    Inv X pins σ (upd H s.heap.objs.size (.frz ⟨.type "tuple", none, .seq vals.toArray 0, #[]⟩ (.tup ys))) { s with heap := s.heap.push ⟨.type "tuple", none, .seq vals.toArray 0, #[]⟩ } :=
  J.laid (t' := s.toks) (fun b o => Heap.get?_push_of_some _) (Nat.le_refl _) ⟨Heap.get?_push_size _ rfl, hz, vals, rv, IsTup.new _ _⟩
/-- tuple(a list): the new tuple is plain -/
theorem call_tuple_ofP : CallR X (.type "tuple") (fun xs H Q => ∃ p ys, xs = [.ref p] ∧ SqL X.K H p ys ∧ ∀ l o, H l = none → o.dict = none → Q (.ref l) (upd H l (.frz o (.tup ys)))) := by
  rintro pins s σ H _ us Q I r ⟨p, ys, rfl, hp, go⟩
  obtain ⟨v, e, rp⟩ := vals1 r
  have ev : v = .ref p := rp
  subst e ev
  obtain ⟨vals, rv, pl, hz⟩ := I.list hp
  have room : vals.toArray.size ≤ sizeLine := by
    rw [List.size_toArray, ← rv.length]
    exact hz
  apply call_tuple_list pl.isList _ room
  intro h1 same
  have J := I.kept (t' := s.toks) same
  exact ⟨.ref _, _, plain_laid J rv hz, rfl, go _ _ (J.hok.fresh (Nat.le_refl _)) rfl⟩
/-- dict(t) of a plain tuple of pairs -/
theorem call_dictT (hcalm : X.calm = true) : CallR X (.type "dict") (fun xs H Q => ∃ (a : Addr) (o : Obj) (ps : List Addr) (kvs : List (Key × V)), xs = [.ref a] ∧ H a = some (.frz o (.tup (ps.map V.ref))) ∧ o.dict = none ∧ Paired (fun p kv => SqT X.K H p [kV kv.1, kv.2]) ps kvs ∧
    ∀ new, H new = none → Q (.ref new) (upd H new (.dK (mergeK [] kvs)))) := by
  rintro pins s σ H _ us Q I r ⟨a, o, ps, kvs, rfl, hq, hd, hp, q⟩
  obtain ⟨v, e, ra⟩ := vals1 r
  have ev : v = .ref a := ra
  subst e ev
  obtain ⟨ho, hz, its, rv, o', ho', hc, n, hdat⟩ := I.hok _ _ hq
  cases ho.symm.trans ho'
  have ei := refs_at rv
  subst ei
  rw [List.length_map] at hz
  have ⟨prs, rel, hl, hpr⟩ := pairs_of I hp
  let vals : List (Value × Value) := prs.mapIdx fun j q => (((ps[j]?).bind fun b => (s.heap.get? b).bind fun ob => match ob.data with | .seq its _ => its[0]? | _ => none).getD .none, q.2)
  have hv : ∀ (j : Nat) (q : Key × Value), prs[j]? = some q → ∃ (b : Addr) (u : Value), ps[j]? = some b ∧ IsTup s.heap b #[u, q.2] ∧ keyIs q.1 u = true ∧ vals[j]? = some (u, q.2) := fun j q e => by
    obtain ⟨b, u, e1, e2, e3⟩ := hpr j q e
    refine ⟨b, u, e1, e2, e3, ?_⟩
    obtain ⟨ob, g1, _, m, g2⟩ := e2
    have : vals[j]? = some (((ps[j]?).bind fun b => (s.heap.get? b).bind fun ob => match ob.data with | .seq its _ => its[0]? | _ => none).getD .none, q.2) := by
      show (prs.mapIdx _)[j]? = _
      rw [List.getElem?_mapIdx, e]
      rfl
    rw [this, e1]
    simp only [Option.bind_some, g1, g2]
    rfl
  have hlv : vals.length = prs.length := List.length_mapIdx
  have hlt : ∀ (j : Nat) (k v : Value), vals[j]? = some (k, v) → ∃ q, prs[j]? = some q ∧ ∃ (b : Addr), ps[j]? = some b ∧ IsTup s.heap b #[k, v] ∧ q.2 = v ∧ keyIs q.1 k = true := fun j k v e => by
    have hj : j < prs.length := by
      rw [← hlv]
      exact (List.getElem?_eq_some_iff.mp e).1
    obtain ⟨b, u, e1, e2, e3, e4⟩ := hv j _ (List.getElem?_eq_getElem hj)
    rw [e] at e4
    cases e4
    exact ⟨_, List.getElem?_eq_getElem hj, b, e1, e2, rfl, e3⟩
  refine PySem.call_dict_pairs (knd := mixKind X.prog X.w) (kvs := prs) (PySem.PairArg.tuple a (ps.map Value.ref).toArray (fun j => (ps[j]?).getD 0) vals) (I.ok.hd hcalm) ⟨⟨o, n, ho, hc, hd, hdat⟩, ?_, fun j k v e => ?_⟩ ⟨hlv.symm, fun i key v e => ?_⟩ (by rw [hlv, hl]; exact hz) fun h' tk hd' k => ?_
  · rw [List.size_toArray, List.length_map, hlv, hl]
  · obtain ⟨q, _, b, e1, e2, _⟩ := hlt j k v e
    refine ⟨?_, ?_⟩
    · simp [e1]
    · show PairAt s.heap (ps[j]?.getD 0) k v
      rw [e1]
      exact .inl e2
  · obtain ⟨q, e0, b, e1, e2, e3, e4⟩ := hlt i key v e
    refine ⟨q.1, ?_, e4⟩
    rw [← e3]
    exact e0
  · have fits : (mergeK [] kvs).length ≤ sizeLine := by
      have all := length_mergeK kvs []
      have same : kvs.length = prs.length := rel.length
      rw [show ([] : List (Key × V)).length = 0 from rfl] at all
      omega
    have apart : (s.heap.objs.size == sysModules) = false := by
      rw [beq_eq_false_iff_ne]
      exact (Nat.ne_of_lt I.big).symm
    have J := I.laid (t' := tk) (o := .dK (mergeK [] kvs)) (fun b o e => k b o (fun z => nomatch z) e) (Nat.le_refl s.heap.objs.size) ⟨fits, apart, merged [] prs, KV.merge rel .nil, hd'⟩
    exact ⟨.ref _, _, J, rfl, q _ (I.hok.fresh (Nat.le_refl _))⟩
end
end L2
namespace DR
open PySem PySem.Spec PyProof.Rows L2
/-! ### plain tuples -/
def PlT (H : Hp) (a : Addr) (xs : List V) : Prop := ∃ o, o.dict = none ∧ H a = some (.frz o (.tup xs))
theorem PlT.sq {K : PySem.W.Frag} {H : Hp} {a : Addr} {xs : List V} (h : PlT H a xs) : SqT K H a xs := h.elim fun o z => .inl (.inr ⟨o, z.2⟩)
theorem PlT.tp {H H' : Hp} {a : Addr} {xs : List V} (e : Tp H H') (h : PlT H a xs) : PlT H' a xs := h.elim fun o z => ⟨o, z.1, e.frz _ _ _ z.2⟩
def TPolP (K : PySem.W.Frag) (H : Hp) (v : V) (f : Pol) : Prop := ∃ a xs, v = .ref a ∧ PlT H a xs ∧ Prs K H xs f
def TEffP (K : PySem.W.Frag) (H : Hp) (v : V) (f : Pol) (n : Int) : Prop := ∃ a x, v = .ref a ∧ SqT K H a [x, .int n] ∧ TPolP K H x f
section
variable {K : PySem.W.Frag} {H H' : Hp} {v : V} {f : Pol} {n : Int}
theorem TPolP.pol (h : TPolP K H v f) : TPol K H v f := by
  obtain ⟨a, xs, e, p, q⟩ := h
  exact ⟨a, xs, e, p.sq, q⟩
theorem TPolP.tp (e : Tp H H') (h : TPolP K H v f) : TPolP K H' v f := by
  obtain ⟨a, xs, rfl, hs, hp⟩ := h
  exact ⟨a, xs, rfl, hs.tp e, Prs.tp e hp⟩
theorem TPolP.same (e : Same H H') (h : TPolP K H v f) : TPolP K H' v f := h.tp (Same.tp e)
theorem TEffP.eff (h : TEffP K H v f n) : TEff K H v f n := by
  obtain ⟨a, x, e, p, q⟩ := h
  exact ⟨a, x, e, p, q.pol⟩
theorem TEffP.tp (e : Tp H H') (h : TEffP K H v f n) : TEffP K H' v f n := by
  obtain ⟨a, x, rfl, hs, hp⟩ := h
  exact ⟨a, x, rfl, tp_t e hs, hp.tp e⟩
theorem TEffP.same (e : Same H H') (h : TEffP K H v f n) : TEffP K H' v f n := h.tp (Same.tp e)
/-- dict(a plain polynomial) -/
theorem prs_paired : ∀ {xs : List V} {f : Pol}, Prs K H xs f → ∃ ps : List Addr, xs = ps.map V.ref ∧ Paired (fun (p : Addr) (kv : Key × V) => SqT K H p [kV kv.1, kv.2]) ps (kvOf f)
  | _, _, .nil => ⟨[], rfl, .nil⟩
  | _, _, .cons r q => by
    obtain ⟨ps, e, h⟩ := prs_paired q
    obtain ⟨a, rfl, hs⟩ := r
    exact ⟨a :: ps, by rw [e]; rfl, .cons hs h⟩
theorem merge_nd : ∀ (m acc : Pol), ((acc ++ m).map (·.1)).Nodup → mergeK (kvOf acc) (kvOf m) = kvOf (acc ++ m)
  | [], acc, _ => by
    rw [List.append_nil]
    rfl
  | t :: m, acc, h => by
    have n1 : (acc.map (·.1)).Nodup := by
      rw [List.map_append] at h
      exact (List.nodup_append.mp h).1
    have n2 : t.1 ∉ acc.map (·.1) := by
      rw [List.map_append] at h
      intro z
      exact (List.nodup_append.mp h).2.2 _ z t.1 List.mem_cons_self rfl
    have e : mergeK (kvOf acc) (kvOf (t :: m)) = mergeK (putK (kvOf acc) (Sum.inl t.1 : Key) (.int t.2)) (kvOf m) := rfl
    rw [e, kv_put n1, put_new n2, merge_nd m (acc ++ [(t.1, t.2)]) (by rw [List.append_assoc]; exact h), List.append_assoc]
    rfl
theorem TPolP.parts (h : TPolP K H v f) : ∃ (a : Addr) (o : Obj) (ps : List Addr), v = V.ref a ∧ H a = some (.frz o (.tup (ps.map V.ref))) ∧ o.dict = none ∧ Paired (fun (p : Addr) (kv : Key × V) => SqT K H p [kV kv.1, kv.2]) ps (kvOf f) := by
  obtain ⟨a, xs, rfl, ⟨o, h1, h2⟩, hp⟩ := h
  obtain ⟨ps, rfl, pp⟩ := prs_paired hp
  exact ⟨a, o, ps, rfl, h2, h1, pp⟩
theorem LPol.parts (h : LPol K H v f) : ∃ (a : Addr) (ps : List Addr), v = V.ref a ∧ SqL K H a (ps.map V.ref) ∧ Paired (fun (p : Addr) (kv : Key × V) => SqT K H p [kV kv.1, kv.2]) ps (kvOf f) := by
  obtain ⟨a, xs, rfl, h2, hp⟩ := h
  obtain ⟨ps, rfl, pp⟩ := prs_paired hp
  exact ⟨a, ps, rfl, h2, pp⟩
theorem merge_kv (nd : (f.map (·.1)).Nodup) : mergeK [] (kvOf f) = kvOf f := merge_nd f [] nd
end
def sp_from_sumsP (K : PySem.W.Frag) : Sp := fun vs H Q _ => ∃ (p : Int) (d : Addr) (m : Pol), vs = [.int p, .ref d] ∧ 0 < p ∧ H d = some (.dK (kvOf m)) ∧ (m.map (·.1)).Nodup ∧ m.length ≤ 1000000 ∧ ∀ v H' g, Same H H' → TPolP K H' v g → Nf p g (cf m) → Q v H'
def sp_normalizeP (K : PySem.W.Frag) : Sp := fun vs H Q _ => ∃ (p : Int) (v : V) (ps : Pol), vs = [.int p, v] ∧ 0 < p ∧ (TPol K H v ps ∨ LPol K H v ps) ∧ ps.length ≤ 1000000 ∧ ∀ u H' g, Same H H' → TPolP K H' u g → Nf p g (cf ps) → Q u H'
theorem Cal.wk {P : Program} {w : World} {K : PySem.W.Frag} {mg : Str → Option Value} {base : Heap} {k : Nat} {x : Str} {sp sp' : Sp} (c : Cal P w K mg base k x sp) (h : ∀ vs H Q E, sp' vs H Q E → sp vs H Q E) : Cal P w K mg base k x sp' :=
  c.ex.elim fun f z => z.elim fun fd y => y.elim fun ps q => ⟨f, fd, ps, q.1.imp h, q.2⟩
theorem fsum_imp {K : PySem.W.Frag} : ∀ vs H Q E, sp_from_sums K vs H Q E → sp_from_sumsP K vs H Q E := fun vs H Q E h => by
  obtain ⟨p, d, m, e, a, b, c, f, k⟩ := h
  exact ⟨p, d, m, e, a, b, c, f, fun v H' g s t n => k v H' g s t.pol n⟩
theorem nrm_imp {K : PySem.W.Frag} : ∀ vs H Q E, sp_normalize K vs H Q E → sp_normalizeP K vs H Q E := fun vs H Q E h => by
  obtain ⟨p, v, ps, e, a, b, c, k⟩ := h
  exact ⟨p, v, ps, e, a, b, c, fun v H' g s t n => k v H' g s t.pol n⟩
theorem Nf.nodup {p : Int} {g : Pol} {c : Int → Int} (h : Nf p g c) : (g.map (·.1)).Nodup := by
  have a := h.asc
  unfold List.Nodup
  rw [List.pairwise_map]
  exact a.imp fun h z => by rw [z] at h; exact Int.lt_irrefl _ h
/-- apply: new dials, without zeros, and the new place -/
def sp_apply (K : PySem.W.Frag) : Sp := fun vs H Q _ => ∃ (p : Int) (v : V) (f : Pol) (m : Int) (d : Addr) (mm : Pol) (pl : Int), vs = [.int p, v, .ref d, .int pl] ∧ 0 < p ∧ TEff K H v f m ∧ H d = some (.dK (kvOf mm)) ∧ (mm.map (·.1)).Nodup ∧ mm.length ≤ 400000 ∧ f.length ≤ 400000 ∧
  ∀ a e H' g, Same H H' → H a = none → H e = none → a ≠ e → SqT K H' a [.ref e, .int (pl + m)] → H' e = some (.dK (kvOf g)) → Nf p g (fun x => cf mm x + cf f (x - pl)) → Q (.ref a) H'
end DR
namespace DR
open PySem PySem.Spec PyProof.Rows L2
/-! ### the laws' own terms: factor, offset, rounds -/
def LTermV (K : PySem.W.Frag) (H : Hp) (v : V) (t : Tm) : Prop := ∃ a x, v = .ref a ∧ SqT K H a [.int t.co, .int t.pl, x] ∧ TPol K H x t.rs
abbrev LTVs (K : PySem.W.Frag) (H : Hp) : List V → List Tm → Prop := Paired (LTermV K H)
section
variable {K : PySem.W.Frag} {H H' : Hp} {v x : V} {t : Tm} {xs ys : List V} {ts us : List Tm}
theorem LTermV.tp (e : Tp H H') (h : LTermV K H v t) : LTermV K H' v t := by
  obtain ⟨a, x, rfl, hs, hx⟩ := h
  exact ⟨a, x, rfl, tp_t e hs, hx.tp e⟩
theorem LTVs.tp (e : Tp H H') : ∀ {xs : List V} {ts : List Tm}, LTVs K H xs ts → LTVs K H' xs ts
  | _, _, .nil => .nil
  | _, _, .cons r q => .cons (r.tp e) (LTVs.tp e q)
theorem LTVs.app : ∀ {xs : List V} {ts : List Tm}, LTVs K H xs ts → LTVs K H ys us → LTVs K H (xs ++ ys) (ts ++ us)
  | _, _, .nil, h => h
  | _, _, .cons r q, h => .cons r (LTVs.app q h)
theorem LTVs.len (h : LTVs K H xs ts) : xs.length = ts.length := Paired.length h
theorem LTVs.get : ∀ {xs : List V} {ts : List Tm} {i : Nat} {x : V}, LTVs K H xs ts → xs[i]? = some x → ∃ t, ts[i]? = some t ∧ LTermV K H x t
  | _, _, _, _, .nil, e => by simp at e
  | _, _, 0, _, .cons r _, e => by
    simp at e
    subst e
    exact ⟨_, rfl, r⟩
  | _, _, i + 1, x, .cons _ q, e => by
    obtain ⟨t, h1, h2⟩ := LTVs.get (i := i) (x := x) q (by simpa using e)
    exact ⟨t, by simpa using h1, h2⟩
def tmD (t : Tm) : PyData := .tuple [.int t.co, .int t.pl, pd t.rs]
theorem LTermV.dp (h : LTermV K H v t) : Dp K H v (tmD t) := by
  obtain ⟨a, x, rfl, hs, hx⟩ := h
  exact .tup hs (.cons (.int _) (.cons (.int _) (.cons hx.dp .nil)))
theorem LTVs.dp : ∀ {xs : List V} {ts : List Tm}, LTVs K H xs ts → DpAll K H xs (ts.map tmD)
  | _, _, .nil => .nil
  | _, _, .cons r q => .cons r.dp (LTVs.dp q)
end
end DR
namespace DR
open PySem PySem.Spec PyProof.Rows L2
/-! ### steps times a factor; a program taken back -/
mutual
def CI (M : Nat) : Ins → Prop
  | .step c => c.natAbs ≤ M
  | .turn c => c.natAbs ≤ M
  | .rep _ b => CP M b
def CP (M : Nat) : List Ins → Prop
  | [] => True
  | i :: r => CI M i ∧ CP M r
end
theorem CP_cons (M : Nat) (i : Ins) (r : List Ins) : CP M (i :: r) = (CI M i ∧ CP M r) := by rw [CP]
theorem CP_app {M : Nat} : ∀ {a b : List Ins}, CP M a → CP M b → CP M (a ++ b)
  | [], b, _, h => h
  | i :: r, b, h, h2 => by
    rw [List.cons_append, CP_cons]
    rw [CP_cons] at h
    exact ⟨h.1, CP_app h.2 h2⟩
theorem er_inS {H Hc H3 : Hp} {D : Addr} {ys : List V} (k : Same H Hc) (hD : Hc D = some (.lst ys)) : Same (er Hc H3) (er1 D (er H H3)) := fun b o e => by
  obtain ⟨h1, h2⟩ := er_at e
  exact er1_of (fun z => h2 ys (z ▸ hD)) (er_of h1 fun xs z => h2 xs (k _ _ z))
theorem er1_sameS {D : Addr} {H H2 H3 : Hp} (s : Same H2 H3) : Same (er1 D (er H H2)) (er1 D (er H H3)) := fun b o e => by
  obtain ⟨h1, h2⟩ := er1_at e
  exact er1_of h1 (er_same s _ _ h2)
theorem er1_updS {D : Addr} {H H2 : Hp} {o : HO} : Same (er1 D (er H H2)) (er1 D (er H (upd H2 D o))) := fun b u e => by
  obtain ⟨h1, h2⟩ := er1_at e
  obtain ⟨h3, h4⟩ := er_at h2
  exact er1_of h1 (er_of (by rw [upd_ne h1]; exact h3) h4)
end DR
namespace DR
open PySem PySem.Spec PyProof.Rows L2
/-! ### programs and effects -/
def sp_effect_ofE (K : PySem.W.Frag) : Sp := fun vs H Q _ => ∃ (p : Int) (v : V) (b : List Ins), vs = [.int p, v] ∧ 0 < p ∧ PV K H v b ∧ dpP b < 3 ∧ WP b ∧ b.length ≤ 1024 ∧ NP b ∧ exP b ≤ 10000 ∧
  ∀ u H' g, Same H H' → TEff K H' u g (shP b) → Nf p g (seP b) → (g.length : Int) ≤ exP b → Q u H'
theorem TEff.sm {K : PySem.W.Frag} {H H' : Hp} {v : V} {f : Pol} {n : Int} (s : Same H H') (h : TEff K H v f n) : TEff K H' v f n := h.tp (Same.tp s)
theorem TEff.sh {K : PySem.W.Frag} {H : Hp} {v : V} {f : Pol} {m n : Int} (e : m = n) (h : TEff K H v f m) : TEff K H v f n := e ▸ h
end DR
/-! ### tuple(d.items()) -/
/-! ### dicts whose keys are tuples of any depth -/
namespace DR
open PySem PySem.Spec PyProof.Rows L2
mutual
/-- what is known of a value says that it is this key -/
inductive NkV (K : PySem.W.Frag) (H : Hp) : V → NestedKey → Prop
  | num (i : Int) : NkV K H (.int i) (.num i)
  | txt (x : Str) : NkV K H (.str x) (.text x)
  | row {a : Addr} {xs : List V} {ks : List NestedKey} (place : SqT K H a xs) (each : NkVs K H xs ks) : NkV K H (.ref a) (.tup ks)
inductive NkVs (K : PySem.W.Frag) (H : Hp) : List V → List NestedKey → Prop
  | nil : NkVs K H [] []
  | cons {x : V} {k : NestedKey} {xs : List V} {ks : List NestedKey} (one : NkV K H x k) (rest : NkVs K H xs ks) : NkVs K H (x :: xs) (k :: ks)
end
/-- tuples stay, whatever else is let go or taken -/
def Tq (H H' : Hp) : Prop := ∀ (K : PySem.W.Frag) (a : Addr) (xs : List V), SqT K H a xs → SqT K H' a xs
theorem Tp.tq {H H' : Hp} (t : Tp H H') : Tq H H' := fun _ _ _ h => tp_t t h
theorem Tq.refl (H : Hp) : Tq H H := fun _ _ _ h => h
theorem Tq.trans {H H1 H2 : Hp} (s : Tq H H1) (t : Tq H1 H2) : Tq H H2 := fun K a xs h => t K a xs (s K a xs h)
mutual
theorem NkV.tq {K : PySem.W.Frag} {H H' : Hp} (t : Tq H H') : ∀ {v : V} {k : NestedKey}, NkV K H v k → NkV K H' v k
  | _, _, .num i => .num i
  | _, _, .txt x => .txt x
  | _, _, .row place each => .row (t _ _ _ place) (NkVs.tq t each)
theorem NkVs.tq {K : PySem.W.Frag} {H H' : Hp} (t : Tq H H') : ∀ {xs : List V} {ks : List NestedKey}, NkVs K H xs ks → NkVs K H' xs ks
  | _, _, .nil => .nil
  | _, _, .cons one rest => .cons (one.tq t) (rest.tq t)
end
/-! the table: each key, where its tuple stands, and what is kept under it -/
abbrev NkT := List (NestedKey × Addr × V)
def valN (T : NkT) (k : NestedKey) : Option V := (T.find? fun p => decide (p.1 = k)).map (·.2.2)
def setN (T : NkT) (k : NestedKey) (b : Addr) (v : V) : NkT := if (valN T k).isSome = true then T.map (fun p => if p.1 = k then (p.1, p.2.1, v) else p) else T ++ [(k, b, v)]
def nkEntry (w : World) (q : NestedKey × Addr × Value) : DictEntry := ⟨q.1.hash w, .ref q.2.1, q.2.2⟩
def NkRel (p : NestedKey × Addr × V) (q : NestedKey × Addr × Value) : Prop := p.1 = q.1 ∧ p.2.1 = q.2.1 ∧ RelV p.2.2 q.2.2
/-- its one object -/
def nkRaw (w : World) (a : Addr) (T : NkT) (h : Heap) : Prop :=
  T.length ≤ sizeLine ∧ (a == sysModules) = false ∧ ∃ qs, Paired NkRel T qs ∧ (qs.map (·.1)).Nodup ∧ ∃ o es ep, h.get? a = some o ∧ o.ExactDict ∧ o.data = .dict es ep ∧ es.toList = qs.map (nkEntry w)
def nkO (w : World) (a : Addr) (T : NkT) : HO := .ext (nkRaw w a T)
/-- a key that this law's programs can make -/
def KeyOk (K : PySem.W.Frag) (H : Hp) (b : Addr) (k : NestedKey) : Prop := NkV K H (.ref b) k ∧ k.depth ≤ 8
theorem KeyOk.tq {K : PySem.W.Frag} {H H' : Hp} {b : Addr} {k : NestedKey} (t : Tq H H') (h : KeyOk K H b k) : KeyOk K H' b k := ⟨h.1.tq t, h.2⟩
def KeysOk (K : PySem.W.Frag) (H : Hp) (T : NkT) : Prop := ∀ p ∈ T, KeyOk K H p.2.1 p.1
theorem KeysOk.tq {K : PySem.W.Frag} {H H' : Hp} {T : NkT} (t : Tq H H') (h : KeysOk K H T) : KeysOk K H' T := fun p m => (h p m).tq t
theorem KeysOk.set {K : PySem.W.Frag} {H : Hp} {T : NkT} {k : NestedKey} {b : Addr} {v : V} (h : KeysOk K H T) (hb : KeyOk K H b k) : KeysOk K H (setN T k b v) := fun p m => by
  unfold setN at m
  split at m
  · obtain ⟨q, hq, rfl⟩ := List.mem_map.mp m
    have old := h q hq
    split
    · exact old
    · exact old
  · rcases List.mem_append.mp m with m | m
    · exact h p m
    · cases List.mem_singleton.mp m
      exact hb
end DR
/-! ### what a program does with dicts whose keys are nested: d[k], k in d, d[k] = v, d.get, d.setdefault, truth, walks -/
/-! ### for k in a dict whose keys are nested -/
namespace DR
open PySem PySem.Spec PyProof.Rows L2
theorem tq_frz {H : Hp} {d : Addr} {o : Obj} {φ : Heap → Prop} {u : HO} (h : H d = some (.frz o (.ext φ))) : Tq H (upd H d u) := fun K a xs q => by
  rcases q with (q | ⟨o', q⟩) | q
  · exact .inl (.inl (by rw [upd_ne (ne_of q h fun z => nomatch z)]; exact q))
  · exact .inl (.inr ⟨o', by rw [upd_ne (ne_of q h fun z => nomatch z)]; exact q⟩)
  · exact .inr q
end DR
/-! ### groups as a dict from rounds to dicts -/
namespace DR
open PySem PySem.Spec PyProof.Rows L2
def nkPr (t : Int × Int) : NestedKey := .tup [.num t.1, .num t.2]
def nkPol (f : Pol) : NestedKey := .tup (f.map nkPr)
theorem nkPol_depth (f : Pol) : (nkPol f).depth ≤ 2 := by
  have : ∀ f : Pol, NestedKey.depthAll (f.map nkPr) ≤ 1 := fun f => by
    induction f with
    | nil => exact Nat.zero_le _
    | cons t f ih =>
      show max (nkPr t).depth (NestedKey.depthAll (f.map nkPr)) ≤ 1
      have : (nkPr t).depth = 1 := rfl
      omega
  show NestedKey.depthAll (f.map nkPr) + 1 ≤ 2
  have := this f
  omega
theorem prs_nk {K : PySem.W.Frag} {H : Hp} : ∀ {xs : List V} {f : Pol}, Prs K H xs f → NkVs K H xs (f.map nkPr)
  | _, _, .nil => .nil
  | _, _, .cons one rest => by
    obtain ⟨a, rfl, ha⟩ := one
    exact .cons (.row ha (.cons (.num _) (.cons (.num _) .nil))) (prs_nk rest)
theorem TPol.key {K : PySem.W.Frag} {H : Hp} {b : Addr} {f : Pol} (h : TPol K H (.ref b) f) : KeyOk K H b (nkPol f) := by
  obtain ⟨a, xs, e, ha, hP⟩ := h
  cases e
  exact ⟨.row ha (prs_nk hP), by have := nkPol_depth f; omega⟩
theorem IsPr.tq {K : PySem.W.Frag} {H H' : Hp} {x : V} {t : Int × Int} (q : Tq H H') (h : IsPr K H x t) : IsPr K H' x t := h.elim fun a z => ⟨a, z.1, q _ _ _ z.2⟩
theorem Prs.tq {K : PySem.W.Frag} {H H' : Hp} (q : Tq H H') : ∀ {xs : List V} {f : Pol}, Prs K H xs f → Prs K H' xs f
  | _, _, .nil => .nil
  | _, _, .cons r s => .cons (r.tq q) (Prs.tq q s)
theorem TPol.tq {K : PySem.W.Frag} {H H' : Hp} {v : V} {f : Pol} (q : Tq H H') (h : TPol K H v f) : TPol K H' v f := by
  obtain ⟨a, xs, rfl, ha, hP⟩ := h
  exact ⟨a, xs, rfl, q _ _ _ ha, Prs.tq q hP⟩
/-- an entry: the rounds' tuple, and a dict of places -/
structure GE (K : PySem.W.Frag) (H0 H : Hp) (p : NestedKey × Addr × V) (g : Pol × Pol) : Prop where
  key : p.1 = nkPol g.1
  rounds : TPol K H (.ref p.2.1) g.1
  sums : ∃ d, p.2.2 = .ref d ∧ H d = some (.dK (kvOf g.2)) ∧ H0 d = none
/-- all entries; no dict stands under two keys -/
structure GT (K : PySem.W.Frag) (H0 H : Hp) (T : NkT) (G : Grp) : Prop where
  each : Paired (GE K H0 H) T G
  apart : (T.map (·.2.2)).Nodup
def noH : Hp := fun _ => none
section
variable {K : PySem.W.Frag} {H0 H H' : Hp} {T : NkT} {G : Grp} {r m : Pol} {b d : Addr}
theorem GT.keys (h : GT K H0 H T G) : KeysOk K H T := fun p mem => by
  obtain ⟨i, hi⟩ := List.mem_iff_getElem?.mp mem
  obtain ⟨g, _, hg⟩ := LiI.paired_get h.each hi
  have := hg.rounds.key
  rw [← hg.key] at this
  exact this
theorem GT.len (h : GT K H0 H T G) : T.length = G.length := Paired.length h.each
theorem GE.same {p : NestedKey × Addr × V} {g : Pol × Pol} (s : Same H H') (h : GE K H0 H p g) : GE K H0 H' p g := by
  obtain ⟨e, t, d, h1, h2, h3⟩ := h
  exact ⟨e, t.tp (Same.tp s), d, h1, s _ _ h2, h3⟩
theorem GT.same (s : Same H H') (h : GT K H0 H T G) : GT K H0 H' T G := ⟨Paired.mapP h.each fun _ _ e => e.same s, h.apart⟩
theorem GT.any (h : GT K H0 H T G) : GT K noH H T G := ⟨Paired.mapP h.each fun _ _ e => ⟨e.key, e.rounds, e.sums.elim fun d z => ⟨d, z.1, z.2.1, rfl⟩⟩, h.apart⟩
/-- what is no dict of ints changes -/
theorem GT.other {a : Addr} {o u : HO} (ha : H a = some o) (n : ∀ kvs, o ≠ .dK kvs) (q : Tq H (upd H a u)) (h : GT K H0 H T G) : GT K H0 (upd H a u) T G := by
  refine ⟨Paired.mapP h.each fun p g e => ?_, h.apart⟩
  obtain ⟨e1, e2, d, h1, h2, h3⟩ := e
  exact ⟨e1, e2.tq q, d, h1, by rw [upd_ne (ne_of h2 ha fun z => n _ z.symm)]; exact h2, h3⟩
theorem map_off {G : Grp} {u : Pol} (n : r ∉ G.map (·.1)) : (G.map fun g => if g.1 = r then (g.1, u) else g) = G := by
  have : ∀ g ∈ G, (if g.1 = r then (g.1, u) else g) = id g := fun g hg => if_neg fun (z : g.1 = r) => n (z ▸ List.mem_map_of_mem hg)
  rw [List.map_congr_left this, List.map_id]
end
/-- a dict of groups -/
def GD (w : World) (K : PySem.W.Frag) (H : Hp) (a : Addr) (G : Grp) : Prop := ∃ T, H a = some (nkO w a T) ∧ GT K noH H T G
theorem GD.same {w : World} {K : PySem.W.Frag} {H H' : Hp} {a : Addr} {G : Grp} (s : Same H H') (h : GD w K H a G) : GD w K H' a G := by
  obtain ⟨T, h1, h2⟩ := h
  exact ⟨T, s _ _ h1, h2.same s⟩
end DR
/-! ### list.count of ints, list.remove of a pair -/
/-! ### {k: v for k in a dict of ints if ..}, the dict locked -/
namespace DR
open PySem PySem.Spec PyProof.Rows L2
theorem gAt_of {G : Grp} (n : (G.map (·.1)).Nodup) {g : Pol × Pol} (h : g ∈ G) : gAt G g.1 = some g.2 := by
  induction G with
  | nil => cases h
  | cons u r ih =>
    have nn := List.nodup_cons.mp (show (u.1 :: r.map (·.1)).Nodup from n)
    rw [gAt_cons]
    rcases List.mem_cons.mp h with e | h
    · rw [e, if_pos rfl]
    · rw [if_neg fun (z : u.1 = g.1) => nn.1 (z ▸ List.mem_map_of_mem h), ih nn.2 h]
theorem GT.free {K : PySem.W.Frag} {H0 H : Hp} {T : NkT} {G : Grp} {a : Addr} {o : Obj} {φ : Heap → Prop} {u : HO} (ha : H a = some (.frz o (.ext φ))) (h : GT K H0 H T G) : GT K H0 (upd H a u) T G := h.other ha (fun _ z => nomatch z) (tq_frz ha)
end DR
/-! ### terms gathered into groups -/
namespace DR
open PySem PySem.Spec PyProof.Rows L2
def gtot (G : Grp) : Nat := (G.map fun g => g.2.length).sum
theorem gtot_cons (g : Pol × Pol) (G : Grp) : gtot (g :: G) = g.2.length + gtot G := by
  unfold gtot
  rw [List.map_cons, List.sum_cons]
theorem gtot_app (A B : Grp) : gtot (A ++ B) = gtot A + gtot B := by
  unfold gtot
  rw [List.map_append, List.sum_append]
theorem gtot_map {r m m0 : Pol} : ∀ {G : Grp}, (G.map (·.1)).Nodup → gAt G r = some m0 → gtot (G.map fun g => if g.1 = r then (g.1, m) else g) + m0.length = gtot G + m.length
  | [], _, h => by cases h
  | g :: G, n, h => by
    have nn := List.nodup_cons.mp (show (g.1 :: G.map (·.1)).Nodup from n)
    rw [gAt_cons] at h
    rw [List.map_cons, gtot_cons, gtot_cons]
    by_cases e : g.1 = r
    · rw [if_pos e] at h ⊢
      rw [map_off (by rw [← e]; exact nn.1), ← Option.some.inj h]
      show m.length + gtot G + g.2.length = _
      omega
    · rw [if_neg e] at h ⊢
      have := gtot_map (m := m) nn.2 h
      omega
theorem gtot_set {G : Grp} {r m : Pol} (n : (G.map (·.1)).Nodup) : gtot (gSet G r m) + ((gAt G r).getD []).length = gtot G + m.length := by
  cases h : gAt G r with
  | none =>
    unfold gSet
    rw [h]
    show gtot (G ++ [(r, m)]) + 0 = _
    rw [gtot_app, gtot_cons]
    show gtot G + (m.length + 0) + 0 = _
    omega
  | some m0 =>
    unfold gSet
    rw [h]
    exact gtot_map n h
theorem gSet_len {G : Grp} {r m : Pol} : (gSet G r m).length ≤ G.length + 1 := by
  unfold gSet
  split
  · rw [List.length_map]
    exact Nat.le_succ _
  · rw [List.length_append]
    exact Nat.le_refl _
theorem mem_gSet {G : Grp} {r m : Pol} {g : Pol × Pol} (h : g ∈ gSet G r m) : g ∈ G ∨ g = (r, m) := by
  unfold gSet at h
  split at h
  · obtain ⟨u, hu, rfl⟩ := List.mem_map.mp h
    split
    · next e =>
      rw [e]
      exact .inr rfl
    · exact .inl hu
  · rcases List.mem_append.mp h with h | h
    · exact .inl h
    · exact .inr (List.mem_singleton.mp h)
/-- groups while they are gathered -/
structure GI (N M : Nat) (R : Pol → Prop) (G : Grp) : Prop where
  nd : (G.map (·.1)).Nodup
  sums : ∀ g ∈ G, (g.2.map (·.1)).Nodup
  total : gtot G ≤ N
  many : G.length ≤ M
  keys : ∀ g ∈ G, R g.1
theorem GI.nil {R : Pol → Prop} : GI 0 0 R [] := ⟨List.nodup_nil, fun _ h => absurd h List.not_mem_nil, Nat.le_refl _, Nat.le_refl _, fun _ h => absurd h List.not_mem_nil⟩
/-- a key for what comes -/
theorem GI.key {N M : Nat} {R : Pol → Prop} {G : Grp} {r : Pol} (h : GI N M R G) (hr : R r) (no : gAt G r = none) : GI N (M + 1) R (gSet G r []) ∧ gAt (gSet G r []) r = some [] ∧ ∀ x, gv (gSet G r []) x = gv G x := by
  have t := gtot_set (m := []) (r := r) h.nd
  have l := gSet_len (G := G) (r := r) (m := [])
  have a := h.total
  have b := h.many
  refine ⟨⟨gSet_nodup h.nd, fun g hg => ?_, ?_, by omega, fun g hg => ?_⟩, ?_, fun x => ?_⟩
  · rcases mem_gSet hg with m | rfl
    · exact h.sums g m
    · exact List.nodup_nil
  · have : ([] : Pol).length = 0 := rfl
    omega
  · rcases mem_gSet hg with m | rfl
    · exact h.keys g m
    · exact hr
  · have n := gSet_nodup (r := r) (m := []) h.nd
    refine gAt_of n (g := (r, [])) ?_
    unfold gSet
    rw [no]
    exact List.mem_append_right _ (List.mem_singleton.mpr rfl)
  · rw [gv_set x h.nd, no]
    show gv G x + (mv [] _ x - mv [] _ x) = _
    omega
/-- one place of one group changes -/
theorem GI.turn {N M : Nat} {R : Pol → Prop} {G : Grp} {r m : Pol} (h : GI N M R G) (at_ : gAt G r = some m) (e c : Int) : GI (N + 1) M R (gSet G r (put m e (cf m e + c))) ∧ gAt (gSet G r (put m e (cf m e + c))) r = some (put m e (cf m e + c)) ∧ ∀ x, gv (gSet G r (put m e (cf m e + c))) x = gv G x + c * wy r (x - e) := by
  obtain ⟨g0, hg0, e1, e2⟩ : ∃ g ∈ G, g.1 = r ∧ g.2 = m := by
    unfold gAt at at_
    obtain ⟨g, hg, e⟩ := Option.map_eq_some_iff.mp at_
    exact ⟨g, List.mem_of_find?_eq_some hg, of_decide_eq_true (List.find?_some (p := fun (g : Pol × Pol) => decide (g.1 = r)) hg), e⟩
  have mn : (m.map (·.1)).Nodup := e2 ▸ h.sums g0 hg0
  have t := gtot_set (m := put m e (cf m e + c)) (r := r) h.nd
  rw [at_] at t
  have pl := put_len m e (cf m e + c)
  have keys := gSet_keys (m := put m e (cf m e + c)) (show (gAt G r).isSome = true by rw [at_]; rfl)
  have many : (gSet G r (put m e (cf m e + c))).length = G.length := by
    have := congrArg List.length keys
    rwa [List.length_map, List.length_map] at this
  have a := h.total
  have b := h.many
  have t : gtot (gSet G r (put m e (cf m e + c))) + m.length = gtot G + (put m e (cf m e + c)).length := t
  refine ⟨⟨gSet_nodup h.nd, fun g hg => ?_, by omega, by omega, fun g hg => ?_⟩, ?_, fun x => ?_⟩
  · rcases mem_gSet hg with q | rfl
    · exact h.sums g q
    · exact put_nodup _ _ _ mn
  · rcases mem_gSet hg with q | rfl
    · exact h.keys g q
    · exact e1 ▸ h.keys g0 hg0
  · refine gAt_of (gSet_nodup h.nd) (g := (r, _)) ?_
    unfold gSet
    rw [at_]
    exact List.mem_map.mpr ⟨g0, hg0, by rw [if_pos e1, e1]⟩
  · rw [gv_set x h.nd, at_]
    show gv G x + (mv (put m e (cf m e + c)) (wy r) x - mv m (wy r) x) = _
    rw [mv_put x mn, show cf m e + c - cf m e = c by omega]
    omega
end DR
namespace DR
open PySem PySem.Spec PyProof.Rows L2
/-! ### one unit more, and the length -/
/-- the four unit effects -/
def Units4 (K : PySem.W.Frag) (H : Hp) (p : Int) (xs : List V) : Prop := ∃ a b c d, xs = [a, b, c, d] ∧ TEff K H a [] 1 ∧ TEff K H b [] (-1) ∧ TEff K H c [(0, 1)] 0 ∧ TEff K H d [(0, p - 1)] 0
theorem Units4.tp {K : PySem.W.Frag} {H H' : Hp} {p : Int} {xs : List V} (t : Tp H H') (h : Units4 K H p xs) : Units4 K H' p xs := by
  obtain ⟨a, b, c, d, e, h1, h2, h3, h4⟩ := h
  exact ⟨a, b, c, d, e, h1.tp t, h2.tp t, h3.tp t, h4.tp t⟩
theorem Units4.each {K : PySem.W.Frag} {H : Hp} {p : Int} {xs : List V} {j : Nat} {x : V} (h : Units4 K H p xs) (hx : xs[j]? = some x) : (∃ c, (c = 1 ∨ c = -1) ∧ TEff K H x [] c) ∨ ∃ c, (c = 1 ∨ c = p - 1) ∧ TEff K H x [(0, c)] 0 := by
  obtain ⟨a, b, c, d, rfl, h1, h2, h3, h4⟩ := h
  match j, hx with
  | 0, e => cases e; exact .inl ⟨1, .inl rfl, h1⟩
  | 1, e => cases e; exact .inl ⟨-1, .inr rfl, h2⟩
  | 2, e => cases e; exact .inr ⟨1, .inl rfl, h3⟩
  | 3, e => cases e; exact .inr ⟨p - 1, .inr rfl, h4⟩
theorem none_before {H H' : Hp} {D : Addr} (s : Same H H') (h : H' D = none) : H D = none := by
  cases e : H D with
  | none => rfl
  | some o =>
    have z := s _ _ e
    rw [h] at z
    cases z
theorem pen_nl {H : Hp} {p c L : Addr} {n : Nat} {xs : List V} (pen : PenAt H p c n) (h : H L = some (.lst xs)) : L ≠ p := fun e => by
  obtain ⟨kvs, z⟩ := pen.dict
  rw [e, z] at h
  cases h
theorem paired_app {α β : Type} {R : α → β → Prop} : ∀ {xs ys : List α} {a b : List β}, Paired R xs a → Paired R ys b → Paired R (xs ++ ys) (a ++ b)
  | _, _, _, _, .nil, h => h
  | _, _, _, _, .cons r t, h => .cons r (paired_app t h)
end DR
namespace DR
open PySem PySem.Spec PyProof.Rows L2
theorem TEff.same {K : PySem.W.Frag} {H H' : Hp} {v : V} {f : Pol} {n : Int} (s : Same H H') (h : TEff K H v f n) : TEff K H' v f n := h.tp (Same.tp s)
/-- a factor beside one that reaches over 0 lies within -/
theorem fac_bd {p : Int} (hp : p ∈ primes) {q g f : Pol} (nq : Nf p q (cf q)) (ng : Nf p g (cf g)) (h0 : cf g 0 ≠ 0) (he : ∀ e, conv q (cf g) e % p = cf f e % p) {A : Nat} (hf : ∀ t ∈ f, t.1.natAbs ≤ A) : ∀ t ∈ q, t.1.natAbs ≤ A := by
  intro t ht
  obtain ⟨z, hz, hz0⟩ := cf_ne h0
  have hgn : g ≠ [] := fun e => by rw [e] at hz; cases hz
  obtain ⟨g0, dg, lead, hg⟩ := ne_snoc hgn
  obtain ⟨u, g1, hg1⟩ : ∃ u g1, g = u :: g1 := by
    cases g with
    | nil => exact absurd rfl hgn
    | cons u g1 => exact ⟨u, g1, rfl⟩
  have hqn : q ≠ [] := fun e => by rw [e] at ht; cases ht
  obtain ⟨q0, dq, cq, hq⟩ := ne_snoc hqn
  obtain ⟨w, q1, hq1⟩ : ∃ u g1, q = u :: g1 := by
    cases q with
    | nil => exact absurd rfl hqn
    | cons u g1 => exact ⟨u, g1, rfl⟩
  have hu0 : u.1 ≤ 0 := by
    have a := ng.asc
    rw [hg1] at a
    rw [← hz0]
    exact asc_le a (by rw [← hg1]; exact hz)
  have hd0 : 0 ≤ dg := by
    have a := ng.asc
    rw [hg] at a
    rw [← hz0]
    exact asc_last a z (by rw [← hg]; exact hz)
  have b1 : cf f (w.1 + u.1) ≠ 0 := fun e0 => by
    have e1 := he (w.1 + u.1)
    rw [e0, hq1, hg1, conv_least (t := w) (u := u) (by rw [← hq1]; exact nq.asc) (by rw [← hg1]; exact ng.asc)] at e1
    exact prime_nz hp (nq.rng w (by rw [hq1]; simp)).1 (nq.rng w (by rw [hq1]; simp)).2 (ng.rng u (by rw [hg1]; simp)).1 (ng.rng u (by rw [hg1]; simp)).2 (e1.trans (Int.zero_emod _))
  have b2 : cf f (dq + dg) ≠ 0 := fun e0 => by
    have e1 := he (dq + dg)
    have ah := nq.asc
    have ag := ng.asc
    rw [hq] at ah
    rw [hg] at ag
    rw [e0, hq, hg, conv_great (t := (dq, cq)) (u := (dg, lead)) ah ag] at e1
    exact prime_nz hp (nq.rng (dq, cq) (by rw [hq]; simp)).1 (nq.rng (dq, cq) (by rw [hq]; simp)).2 (ng.rng (dg, lead) (by rw [hg]; simp)).1 (ng.rng (dg, lead) (by rw [hg]; simp)).2 (e1.trans (Int.zero_emod _))
  obtain ⟨t1, m1, e1⟩ := cf_ne b1
  obtain ⟨t2, m2, e2⟩ := cf_ne b2
  have h1 := hf t1 m1
  have h2 := hf t2 m2
  have h3 : w.1 ≤ t.1 := by
    have a := nq.asc
    rw [hq1] at a
    exact asc_le a (by rw [← hq1]; exact ht)
  have h4 : t.1 ≤ dq := by
    have a := nq.asc
    rw [hq] at a
    exact asc_last a t (by rw [← hq]; exact ht)
  omega
theorem rounds_zero {k : Int} (hk : k ≠ 0) : ∀ n : Nat, cf (rounds n k) 0 = if 0 < n then 1 else 0
  | 0 => rfl
  | n + 1 => by
    rw [rounds_succ, cf_append, rounds_zero hk n]
    show (if 0 < n then 1 else 0) + ((if (n : Int) * k = 0 then 1 else 0) + 0) = if 0 < n + 1 then 1 else 0
    rw [if_pos (Nat.succ_pos n)]
    by_cases z : n = 0
    · rw [z]
      simp
    · rw [if_pos (by omega), if_neg (fun y => by
        rcases Int.mul_eq_zero.mp y with h | h
        · omega
        · exact hk h)]
      rfl
/-- the normal form of 1 + t ** k + .. -/
theorem geo_ex {p : Int} (hp : 2 ≤ p) {k : Int} (hk : k ≠ 0) {n : Nat} (hn : 0 < n) : ∃ g, Nf p g (cf (rounds n k)) ∧ cf g 0 ≠ 0 := by
  obtain ⟨g, ng⟩ := nf_ex (p := p) (by omega) (rounds n k)
  refine ⟨g, ng, ?_⟩
  rw [ng.cof, rounds_zero hk, if_pos hn, Int.emod_eq_of_lt (by omega) (by omega)]
  omega
theorem IsR.bd {p : Int} (hp : p ∈ primes) {f q : Pol} {s k c : Int} (h : IsR p f s q k c) (hs : s ≠ 0) {A : Nat} (hf : ∀ t ∈ f, t.1.natAbs ≤ A) : ∀ t ∈ q, t.1.natAbs ≤ A := by
  have hpr := prime_rng p hp
  have hk := h.k0 hs
  have hc := h.pos
  obtain ⟨g, ng, h0⟩ := geo_ex hpr.1 hk (n := c.toNat) (by omega)
  refine fac_bd hp h.nf ng.self h0 (fun e => ?_) hf
  have e1 := Cm.power hp hk (by omega) h.mul h.cm e
  rw [← pw_rounds q k (by omega)] at e1
  rw [← e1]
  exact conv_mod (fun x => by rw [ng.cof, Int.emod_emod]) q e
/-! ### what root returns, as data -/
end DR
namespace DR
open PySem PySem.Spec PyProof.Rows L2
theorem kp_mut {p L : Addr} {H H' : Hp} {o : HO} (k : Kp p H H') (h : H L = none) : Kp p H (upd H' L o) := fun b u nb e => by
  rw [upd_ne (ne_of_none e h)]
  exact k b u nb e
/-- an effect among the others -/
def ItM (K : PySem.W.Frag) (q : Int) (H : Hp) (v : V) : Prop := ∃ g m, TEff K H v g m ∧ Nf q g (cf g) ∧ g.length ≤ 100 ∧ m.natAbs ≤ 40
theorem ItM.tp {K : PySem.W.Frag} {q : Int} {H H' : Hp} {v : V} (t : Tp H H') (h : ItM K q H v) : ItM K q H' v := by
  obtain ⟨g, m, h1, h2⟩ := h
  exact ⟨g, m, h1.tp t, h2⟩
end DR
namespace DR
open PySem PySem.Spec PyProof.Rows L2
section
variable {K : PySem.W.Frag} {H : Hp}
theorem Prs.erase : ∀ {xs : List V} {f : Pol} (k : Nat), Prs K H xs f → Prs K H (xs.eraseIdx k) (f.eraseIdx k)
  | _, _, _, .nil => .nil
  | _, _, 0, .cons _ t => t
  | _, _, k + 1, .cons h t => .cons h (Prs.erase k t)
end
end DR
namespace DR
open PySem PySem.Spec PyProof.Rows L2
/-- a root lies within -/
theorem Cm.bd {p : Int} (hp : p ∈ primes) {f q : Pol} {s k n : Int} (hk : k ≠ 0) (hn : 0 < n) (hs : s = n * k) (nq : Nf p q (cf q)) (h : Cm p f s q k) {A : Nat} (hf : ∀ t ∈ f, t.1.natAbs ≤ A) : ∀ t ∈ q, t.1.natAbs ≤ A := by
  have hpr := prime_rng p hp
  obtain ⟨g, ng, h0⟩ := geo_ex hpr.1 hk (n := n.toNat) (by omega)
  refine fac_bd hp nq ng.self h0 (fun e => ?_) hf
  have e1 := Cm.power hp hk (by omega) hs h e
  rw [← pw_rounds q k (by omega)] at e1
  rw [← e1]
  exact conv_mod (fun x => by rw [ng.cof, Int.emod_emod]) q e
/-- an effect of the law's -/
def EfM (K : PySem.W.Frag) (q : Int) (H : Hp) (v : V) : Prop := ∃ g m, TEff K H v g m ∧ Nf q g (cf g) ∧ (∀ t ∈ g, t.1.natAbs ≤ 60) ∧ m.natAbs ≤ 60 ∧ (m = 0 → g.length ≤ 10)
theorem EfM.tp {K : PySem.W.Frag} {q : Int} {H H' : Hp} {v : V} (t : Tp H H') (h : EfM K q H v) : EfM K q H' v := by
  obtain ⟨g, m, h1, h2⟩ := h
  exact ⟨g, m, h1.tp t, h2⟩
end DR
namespace DR
open PySem PySem.Spec PyProof.Rows L2
/-! ### length certificates -/
abbrev Tri := Int × Int × Int
def TriV (K : PySem.W.Frag) (H : Hp) (x : V) (t : Tri) : Prop := ∃ a, x = .ref a ∧ SqT K H a [.int t.1, .int t.2.1, .int t.2.2]
theorem TriV.tp {K : PySem.W.Frag} {H H' : Hp} {x : V} {t : Tri} (e : Tp H H') (h : TriV K H x t) : TriV K H' x t := by
  obtain ⟨a, r, q⟩ := h
  exact ⟨a, r, tp_t e q⟩
abbrev TriVs (K : PySem.W.Frag) (H : Hp) : List V → List Tri → Prop := Paired (TriV K H)
theorem TriVs.tp {K : PySem.W.Frag} {H H' : Hp} (e : Tp H H') : ∀ {xs : List V} {ts : List Tri}, TriVs K H xs ts → TriVs K H' xs ts
  | _, _, .nil => .nil
  | _, _, .cons r q => .cons (r.tp e) (TriVs.tp e q)
theorem TriVs.get {K : PySem.W.Frag} {H : Hp} : ∀ {xs : List V} {ts : List Tri} {j : Nat} {x : V}, TriVs K H xs ts → xs[j]? = some x → ∃ t, ts[j]? = some t ∧ TriV K H x t
  | _, _, _, _, .nil, e => nomatch e
  | _, _, 0, _, .cons r _, e => by
    cases e
    exact ⟨_, rfl, r⟩
  | _, _, j + 1, _, .cons _ q, e => TriVs.get (j := j) q e
theorem TriVs.len {K : PySem.W.Frag} {H : Hp} : ∀ {xs : List V} {ts : List Tri}, TriVs K H xs ts → xs.length = ts.length
  | _, _, .nil => rfl
  | _, _, .cons _ q => by rw [List.length_cons, TriVs.len q, List.length_cons]
/-! the certificate of an effect -/
/-! what the defs promise -/
end DR
open L2 PySem PySem.Spec PyProof.Rows
/-! the parts of a certificate as the program tests them -/
namespace DR
/-- rows of ints -/
def Row (K : PySem.W.Frag) (H : Hp) (x : V) (r : List Int) : Prop := ∃ a, x = .ref a ∧ SqT K H a (r.map V.int)
theorem Row.tp {K : PySem.W.Frag} {H H' : Hp} {x : V} {r : List Int} (e : Tp H H') (h : Row K H x r) : Row K H' x r := by
  obtain ⟨a, z, q⟩ := h
  exact ⟨a, z, tp_t e q⟩
abbrev Rows (K : PySem.W.Frag) (H : Hp) : List V → List (List Int) → Prop := Paired (Row K H)
theorem Rows.tp {K : PySem.W.Frag} {H H' : Hp} (e : Tp H H') : ∀ {xs : List V} {rs : List (List Int)}, Rows K H xs rs → Rows K H' xs rs
  | _, _, .nil => .nil
  | _, _, .cons r q => .cons (r.tp e) (Rows.tp e q)
theorem Rows.get {K : PySem.W.Frag} {H : Hp} : ∀ {xs : List V} {rs : List (List Int)} {j : Nat} {x : V}, Rows K H xs rs → xs[j]? = some x → ∃ r, rs[j]? = some r ∧ Row K H x r
  | _, _, j, _, .nil, e => by cases j <;> cases e
  | _, _, 0, _, .cons r _, e => by cases e; exact ⟨_, rfl, r⟩
  | _, _, j + 1, _, .cons _ q, e => Rows.get (j := j) q e
theorem Rows.len {K : PySem.W.Frag} {H : Hp} : ∀ {xs : List V} {rs : List (List Int)}, Rows K H xs rs → xs.length = rs.length
  | _, _, .nil => rfl
  | _, _, .cons _ q => congrArg (· + 1) (Rows.len q)
end DR
/-! ### strides, each so often as the group that has it most often -/
namespace DR
open PySem PySem.Spec PyProof.Rows L2
def repl (m : Pol) : List Int := (m.map fun t => List.replicate t.2.toNat t.1).flatten
/-- the dict of strides while the groups are walked -/
structure StJ (A : Grp) (g : Pol) (j : Nat) (m : Pol) : Prop where
  nd : (m.map (·.1)).Nodup
  low : ∀ u ∈ A, ∀ s, (sct s u.1 : Int) ≤ cf m s
  mine : ∀ s ∈ (g.map (·.2)).take j, (sct s g : Int) ≤ cf m s
  att : ∀ s ∈ m.map (·.1), (∃ u ∈ A, cf m s = sct s u.1) ∨ cf m s = sct s g
theorem StJ.pos {A : Grp} {g m : Pol} {j : Nat} (h : StJ A g j m) (s : Int) : 0 ≤ cf m s := by
  by_cases z : s ∈ m.map (·.1)
  · rcases h.att s z with ⟨u, _, e⟩ | e <;> omega
  · rw [cf_out z]
    exact Int.le_refl _
end DR
/-! ### groups with one stride less -/
/-! ### the extremes of a sum of terms -/
namespace DR
open PySem PySem.Spec PyProof.Rows L2
/-- strides: how often each may be taken out -/
def SOk (U : List Int) (r : Pol) : Prop := RsOk r ∧ r.length ≤ 2 ∧ ∀ s, sct s r ≤ U.count s
theorem SOk.drop {s : Int} {U : List Int} {r : Pol} (h : SOk (s :: U) r) : SOk U (dropS s r) := by
  obtain ⟨a, b, c⟩ := h
  refine ⟨fun t ht => a t (dropS_sub s r t ht), Nat.le_trans (dropS_len s r) b, fun u => ?_⟩
  rw [sct_drop]
  have := c u
  rw [List.count_cons] at this
  by_cases e : u = s
  · rw [if_pos e]
    rw [if_pos (by rw [e, beq_self_eq_true])] at this
    omega
  · rw [if_neg e]
    rw [if_neg (fun y => e (eq_of_beq y).symm)] at this
    omega
end DR
/-! ### the strides of a program's repeats, and of its terms -/
namespace DR
open PySem PySem.Spec PyProof.Rows L2
mutual
def sdI : Ins → List Int
  | .step _ => []
  | .turn _ => []
  | .rep _ b => ((shP b).natAbs : Int) :: sdP b
def sdP : List Ins → List Int
  | [] => []
  | i :: r => sdI i ++ sdP r
end
theorem sdP_nil : sdP [] = [] := by rw [sdP]
theorem sdP_cons (i : Ins) (r : List Ins) : sdP (i :: r) = sdI i ++ sdP r := by rw [sdP]
theorem sdP_app : ∀ a b : List Ins, sdP (a ++ b) = sdP a ++ sdP b
  | [], b => by rw [sdP_nil]; rfl
  | i :: r, b => by rw [List.cons_append, sdP_cons, sdP_cons, sdP_app r b, List.append_assoc]
theorem sdP_one (i : Ins) : sdP [i] = sdI i := by rw [sdP_cons, sdP_nil, List.append_nil]
theorem sdP_snoc {b : List Ins} {j : Nat} {i : Ins} (h : b[j]? = some i) : sdP (b.take (j + 1)) = sdP (b.take j) ++ sdI i := by rw [take_snoc h, sdP_app, sdP_one]
theorem st_le {b : List Ins} {j : Nat} {i : Ins} (h : b[j]? = some i) (y : Int) : (sdP (b.take j)).count y ≤ (sdP (b.take (j + 1))).count y := by
  rw [sdP_snoc h, List.count_append]
  exact Nat.le_add_right _ _
theorem sct_perm {f g : Pol} {n a s : Int} (h : g.Perm (f ++ [(n, a)])) (e : a = (s.natAbs : Int)) (y : Int) : sct y g ≤ sct y f + if y = (s.natAbs : Int) then 1 else 0 := by
  unfold sct
  rw [(h.map (·.2)).count_eq, List.map_append, List.count_append, ← e]
  show _ + List.count y [a] ≤ _
  rw [List.count_singleton]
  by_cases z : y = a
  · rw [if_pos z, if_pos (by rw [z, beq_self_eq_true])]
    exact Nat.le_refl _
  · rw [if_neg z, if_neg fun w => z (eq_of_beq w).symm]
    exact Nat.le_refl _
def sp_repeatedS (K : PySem.W.Frag) : Sp := fun vs H Q _ => ∃ (v : V) (t : Tm) (n s : Int) (k : Nat) (T pl : Int), vs = [v, .int n, .int s] ∧ TermV K H v t ∧ TOk k T pl t ∧ k ≤ 2 ∧ 1 ≤ n ∧ n ≤ 2 ^ 100 ∧ (s.natAbs : Int) ≤ T ∧ s.natAbs ≤ 2 ^ 331 ∧
  ∀ u H' t', Same H H' → TermV K H' u t' → Repd t n s t' → TOk (k + 1) (n * T) pl t' → (∀ y, sct y t'.rs ≤ sct y t.rs + if y = (s.natAbs : Int) then 1 else 0) → Q u H'
def sp_terms_ofS (K : PySem.W.Frag) (k : Nat) : Sp := fun vs H Q _ => ∃ (v : V) (pl : Int) (b : List Ins), vs = [v, .int pl] ∧ PV K H v b ∧ dpP b < k ∧ k ≤ 3 ∧ WP b ∧ NP b ∧ cnP b ≤ 1024 ∧
  ∀ D ys ts H', Same H H' → H D = none → H' D = some (.lst ys) → TVs K H' ys ts → (∀ x, tvs ts x = seP b (x - pl)) → (∀ t ∈ ts, TOk k (trP b) pl t) → ts.length ≤ cnP b → (∀ t ∈ ts, ∀ y, sct y t.rs ≤ (sdP b).count y) → Q (.ref D) H'
end DR
/-! ### drawn programs, with how many repeats they have -/
namespace DR
open PySem PySem.Spec PyProof.Rows L2
structure PrS (b : List Ins) (k N : Nat) (R : Int) (m : Nat) : Prop where
  r : PrR b k N R
  st : (sdP b).length ≤ m
theorem flat_sd : ∀ {b : List Ins}, (∀ i ∈ b, isFlat i) → sdP b = []
  | [], _ => sdP_nil
  | i :: r, h => by
    rw [sdP_cons, flat_sd fun j hj => h j (List.mem_cons_of_mem i hj), List.append_nil]
    have := h i List.mem_cons_self
    cases i with
    | step _ => rw [sdI]
    | turn _ => rw [sdI]
    | rep _ _ => exact absurd this id
theorem Flat.okS {b : List Ins} {N R : Nat} (h : Flat b N R) (hR : R ≤ 2 ^ 100) (M : Int) : PrS b 0 N M 0 := ⟨h.okR hR M, by rw [flat_sd h.flat]; exact Nat.le_refl _⟩
theorem PrS.app {b c : List Ins} {k j N M m n : Nat} {R : Int} (h : PrS b k N R m) (h2 : PrS c j M R n) : PrS (b ++ c) (max k j) (N + M) R (m + n) := ⟨h.r.app h2.r, by
  rw [sdP_app, List.length_append]
  have := h.st
  have := h2.st
  omega⟩
theorem PrS.rep {b : List Ins} {k N m : Nat} {R : Int} (h : PrS b k N R m) (hN : N ≤ 1024) {n : Int} (hn : n.natAbs ≤ 2 ^ 100) (h0 : 0 ≤ n) (h9 : n ≤ R) : PrS [.rep n b] (k + 1) (N + 1) R (m + 1) := ⟨h.r.rep hN hn h0 h9, by
  rw [sdP_one, sdI, List.length_cons]
  exact Nat.succ_le_succ h.st⟩
theorem PrS.up {b : List Ins} {k N m k' N' m' : Nat} {R : Int} (h : PrS b k N R m) (a : k ≤ k') (c : N ≤ N') (d : m ≤ m') : PrS b k' N' R m' := ⟨h.r.up a c, Nat.le_trans h.st d⟩
end DR
namespace DR
open PySem PySem.Spec PyProof.Rows L2
theorem Ends1.uniq {p lo hi lo' hi' : Int} {F : Int → Int} (a : Ends1 p F lo hi) (b : Ends1 p F lo' hi') : lo = lo' ∧ hi = hi' := by
  refine ⟨?_, ?_⟩
  · rcases Int.lt_trichotomy lo lo' with z | z | z
    · exact absurd (b.below lo z) a.atLo
    · exact z
    · exact absurd (a.below lo' z) b.atLo
  · rcases Int.lt_trichotomy hi hi' with z | z | z
    · exact absurd (a.above hi' z) b.atHi
    · exact z
    · exact absurd (b.above hi z) a.atHi
end DR
/-! ### the cuts of a drawn program -/
/-! ### drawn programs cut in nine, factors on turns, places touched (k42, k39) -/
namespace DR
open PySem PySem.Spec PyProof.Rows L2
/-! what this does to the ends -/
theorem Ends1.moved {p lo hi : Int} {b : List Ins} (E : Ends1 p (seP b) lo hi) (a : Int) : Ends1 p (seP ([.step a] ++ b)) (lo + a) (hi + a) := by
  have e : ∀ x, seP ([.step a] ++ b) x = seP b (x - a) := fun x => by
    rw [seP_app, seP_cons, seP_nil, shP_cons, shP_nil, seI, shI]
    rw [Int.add_zero, Int.add_zero, Int.zero_add]
  refine ⟨?_, ?_, fun x h => ?_, fun x h => ?_⟩
  · rw [e, show lo + a - a = lo by omega]
    exact E.atLo
  · rw [e, show hi + a - a = hi by omega]
    exact E.atHi
  · rw [e]
    exact E.below _ (by omega)
  · rw [e]
    exact E.above _ (by omega)
theorem none_moved {p : Int} {b : List Ins} (h : ∀ x, p ∣ seP b x) (a : Int) : ∀ x, p ∣ seP ([.step a] ++ b) x := fun x => by
  rw [seP_app, seP_cons, seP_nil, seI, Int.add_zero, Int.zero_add]
  exact h _
theorem Ends1.same {p lo hi : Int} {F G : Int → Int} (E : Ends1 p F lo hi) (e : ∀ x, p ∣ G x ↔ p ∣ F x) : Ends1 p G lo hi := ⟨fun h => E.atLo ((e lo).mp h), fun h => E.atHi ((e hi).mp h), fun x h => (e x).mpr (E.below x h), fun x h => (e x).mpr (E.above x h)⟩
end DR
namespace DR
open PySem PySem.Spec PyProof.Rows L2
/-- what an extent tells of a program -/
def Tells (K : PySem.W.Frag) (H : Hp) (p : Int) (b : List Ins) (v : V) : Prop := (v = .non ∧ ∀ x, p ∣ seP b x) ∨ ∃ T lo hi, v = .ref T ∧ SqT K H T [.int lo, .int hi] ∧ Ends1 p (seP b) lo hi ∧ lo.natAbs ≤ 2 ^ 338 ∧ hi.natAbs ≤ 2 ^ 338
theorem Tells.kp {K : PySem.W.Frag} {H H' : Hp} {q : Int} {b : List Ins} {v : V} {p c : Addr} {n : Nat} (t : Tells K H q b v) (pen : PenAt H p c n) (k : Kp p H H') : Tells K H' q b v := t.elim .inl fun ⟨T, lo, hi, e, hT, r⟩ => .inr ⟨T, lo, hi, e, tp_t (pen.tp k) hT, r⟩
theorem Tells.same {K : PySem.W.Frag} {H H' : Hp} {q : Int} {b : List Ins} {v : V} (t : Tells K H q b v) (s : Same H H') : Tells K H' q b v := t.elim .inl fun ⟨T, lo, hi, e, hT, r⟩ => .inr ⟨T, lo, hi, e, same_t s hT, r⟩
theorem Ends1.le {p lo hi : Int} {F : Int → Int} (E : Ends1 p F lo hi) : lo ≤ hi := Classical.byContradiction fun z => E.atHi (E.below hi (by omega))
end DR
namespace DR
open PySem PySem.Spec PyProof.Rows L2
/-- the ends an extent tells, as a list -/
def EndsAs (p : Int) (b : List Ins) (es : List Int) : Prop := (es = [] ∧ ∀ x, p ∣ seP b x) ∨ ∃ lo hi, es = [lo, hi] ∧ Ends1 p (seP b) lo hi
def endsD : List Int → PyData
  | [] => .none
  | es => .tuple (es.map .int)
theorem EndsAs.len {p : Int} {b : List Ins} {es : List Int} (h : EndsAs p b es) : es = [] ∨ ∃ lo hi, es = [lo, hi] := by
  rcases h with ⟨e, _⟩ | ⟨lo, hi, e, _⟩
  · exact .inl e
  · exact .inr ⟨lo, hi, e⟩
/-- what is told of a program is what its ends are -/
theorem Tells.dp {K : PySem.W.Frag} {H : Hp} {p : Int} {b : List Ins} {v : V} {es : List Int} (t : Tells K H p b v) (e : EndsAs p b es) : Dp K H v (endsD es) := by
  rcases t with ⟨rfl, all⟩ | ⟨T, lo, hi, rfl, hT, E1, _, _⟩
  · rcases e with ⟨rfl, _⟩ | ⟨lo, hi, rfl, E2⟩
    · exact .non
    · exact absurd (all lo) E2.atLo
  · rcases e with ⟨rfl, all⟩ | ⟨lo2, hi2, rfl, E2⟩
    · exact absurd (all lo) E1.atLo
    · obtain ⟨rfl, rfl⟩ := E1.uniq E2
      exact .tup hT (.cons (.int _) (.cons (.int _) .nil))
theorem EndsAs.none {p : Int} {b : List Ins} {v : V} {K : PySem.W.Frag} {H : Hp} (t : Tells K H p b v) (all : ∀ x, p ∣ seP b x) : v = .non := by
  rcases t with ⟨rfl, _⟩ | ⟨T, lo, hi, rfl, hT, E1, _, _⟩
  · rfl
  · exact absurd (all lo) E1.atLo
theorem EndsAs.moved {p : Int} {b : List Ins} {es : List Int} (h : EndsAs p b es) (a : Int) : EndsAs p ([.step a] ++ b) (es.map fun x => x + a) := by
  rcases h with ⟨rfl, all⟩ | ⟨lo, hi, rfl, E⟩
  · exact .inl ⟨rfl, none_moved all a⟩
  · exact .inr ⟨_, _, rfl, E.moved a⟩
theorem EndsAs.same {p : Int} {b c : List Ins} {es : List Int} (h : EndsAs p b es) (e : ∀ x, p ∣ seP c x ↔ p ∣ seP b x) : EndsAs p c es := by
  rcases h with ⟨rfl, all⟩ | ⟨lo, hi, rfl, E⟩
  · exact .inl ⟨rfl, fun x => (e x).mpr (all x)⟩
  · exact .inr ⟨_, _, rfl, E.same e⟩
/-- what an extent asks of a program -/
def PrE (b : List Ins) : Prop := dpP b < 3 ∧ WP b ∧ NP b ∧ cnP b ≤ 400 ∧ (sdP b).length ≤ 10
theorem PrS.ext {b : List Ins} {k N m : Nat} {R : Int} (h : PrS b k N R m) (hk : k ≤ 2) (hN : N ≤ 400) (hm : m ≤ 10) : PrE b := ⟨by have := h.r.ok.dp; omega, h.r.ok.w, h.r.nn, by have := h.r.ok.cn; omega, Nat.le_trans h.st hm⟩
end DR
/-! ### two programs and what is told of their first difference (k39) -/
namespace DR
open PySem PySem.Spec PyProof.Rows L2
/-- what a first difference tells -/
def Told (K : PySem.W.Frag) (H : Hp) (p : Int) (b c : List Ins) (v : V) : Prop :=
  (∃ T x, v = .ref T ∧ (∀ y, y < x → seP b y % p = seP c y % p) ∧ seP b x % p ≠ seP c x % p ∧ SqT K H T [.str "dial", .int x, .int (seP b x % p), .int (seP c x % p)]) ∨
  (∃ T, v = .ref T ∧ (∀ y, seP b y % p = seP c y % p) ∧ shP b ≠ shP c ∧ SqT K H T [.str "shift", .int (shP b), .int (shP c)]) ∨
  (v = .non ∧ (∀ y, seP b y % p = seP c y % p) ∧ shP b = shP c)
theorem Told.same {K : PySem.W.Frag} {H H' : Hp} {p : Int} {b c : List Ins} {v : V} (t : Told K H p b c v) (s : Same H H') : Told K H' p b c v := by
  rcases t with ⟨T, x, e, h1, h2, h3⟩ | ⟨T, e, h1, h2, h3⟩ | h
  · exact .inl ⟨T, x, e, h1, h2, same_t s h3⟩
  · exact .inr (.inl ⟨T, e, h1, h2, same_t s h3⟩)
  · exact .inr (.inr h)
theorem Told.kp {K : PySem.W.Frag} {H H' : Hp} {p : Int} {b c : List Ins} {v : V} {pn cn : Addr} {n : Nat} (t : Told K H p b c v) (pen : PenAt H pn cn n) (k : Kp pn H H') : Told K H' p b c v := by
  rcases t with ⟨T, x, e, h1, h2, h3⟩ | ⟨T, e, h1, h2, h3⟩ | h
  · exact .inl ⟨T, x, e, h1, h2, tp_t (pen.tp k) h3⟩
  · exact .inr (.inl ⟨T, e, h1, h2, tp_t (pen.tp k) h3⟩)
  · exact .inr (.inr h)
theorem PrS.wide {b : List Ins} {k N m : Nat} {R R' : Int} (h : PrS b k N R m) (hR : R ≤ R') : PrS b k N R' m := ⟨⟨h.r.ok, h.r.nn, RP_up hR _ h.r.rp⟩, h.st⟩
theorem Flat.more {b : List Ins} {N R : Nat} (h : Flat b N R) {i : Ins} (fi : isFlat i) (hi : (cntOf i).natAbs ≤ R) : Flat (b ++ [i]) (N + 1) R := ⟨by
  rw [List.length_append]
  exact Nat.succ_le_succ h.len, fun j hj => by
  rcases List.mem_append.mp hj with g | g
  · exact h.flat j g
  · cases List.mem_singleton.mp g
    exact fi, fun j hj => by
  rcases List.mem_append.mp hj with g | g
  · exact h.cnt j g
  · cases List.mem_singleton.mp g
    exact hi⟩
end DR
namespace DR
open PySem PySem.Spec PyProof.Rows L2
theorem EndsAs.one {p : Int} {b : List Ins} {es : List Int} (h : EndsAs p b es) {m n : Int} (l : m ∈ es.take 1) (k : n ∈ es.take 1) : m = n := by
  rcases h with ⟨rfl, all⟩ | ⟨lo, hi, rfl, E⟩
  · cases l
  · rw [List.mem_singleton.mp l, List.mem_singleton.mp k]
end DR
namespace DR
open PySem PySem.Spec PyProof.Rows L2
/-- an extent by its list of ends -/
def TellE (K : PySem.W.Frag) (H : Hp) (u : V) (es : List Int) : Prop := (u = .non ∧ es = []) ∨ ∃ T lo hi, u = .ref T ∧ es = [lo, hi] ∧ SqT K H T [.int lo, .int hi]
theorem Tells.out {K : PySem.W.Frag} {H : Hp} {q : Int} {b : List Ins} {u : V} (t : Tells K H q b u) : ∃ es, EndsAs q b es ∧ TellE K H u es ∧ ∀ z ∈ es, z.natAbs ≤ 2 ^ 338 := by
  rcases t with ⟨e, all⟩ | ⟨T, lo, hi, e, hT, E, h1, h2⟩
  · exact ⟨[], .inl ⟨rfl, all⟩, .inl ⟨e, rfl⟩, fun z h => absurd h List.not_mem_nil⟩
  · refine ⟨[lo, hi], .inr ⟨lo, hi, rfl, E⟩, .inr ⟨T, lo, hi, e, rfl, hT⟩, fun z h => ?_⟩
    rcases List.mem_cons.mp h with g | g
    · rw [g]
      exact h1
    · rw [List.mem_singleton.mp g]
      exact h2
theorem TellE.same {K : PySem.W.Frag} {H H' : Hp} {u : V} {es : List Int} (t : TellE K H u es) (s : Same H H') : TellE K H' u es := t.elim .inl fun ⟨T, lo, hi, a, b, hT⟩ => .inr ⟨T, lo, hi, a, b, same_t s hT⟩
theorem TellE.dp {K : PySem.W.Frag} {H : Hp} {u : V} {es : List Int} (t : TellE K H u es) : Dp K H u (endsD es) := by
  rcases t with ⟨rfl, rfl⟩ | ⟨T, lo, hi, rfl, rfl, hT⟩
  · exact .non
  · exact .tup hT (.cons (.int _) (.cons (.int _) .nil))
theorem TellE.non {K : PySem.W.Frag} {H : Hp} {u : V} {es : List Int} (t : TellE K H u es) : (!decide (u = .non)) = es.head?.isSome := by
  rcases t with ⟨rfl, rfl⟩ | ⟨_, _, _, rfl, rfl, _⟩
  · exact congrArg (! ·) (decide_eq_true rfl)
  · exact congrArg (! ·) (decide_eq_false fun z => by cases z)
theorem EndsAs.uniq {p : Int} {b d : List Ins} {es fs : List Int} (h : EndsAs p b es) (g : EndsAs p d fs) (e : ∀ x, seP b x % p = seP d x % p) : es = fs := by
  have iff : ∀ x, p ∣ seP b x ↔ p ∣ seP d x := fun x => ⟨fun z => Int.dvd_of_emod_eq_zero ((e x).symm.trans (Int.emod_eq_zero_of_dvd z)), fun z => Int.dvd_of_emod_eq_zero ((e x).trans (Int.emod_eq_zero_of_dvd z))⟩
  rcases h with ⟨rfl, all⟩ | ⟨lo, hi, rfl, E⟩
  · rcases g with ⟨rfl, _⟩ | ⟨lo, hi, rfl, G⟩
    · rfl
    · exact absurd ((iff lo).mp (all lo)) G.atLo
  · rcases g with ⟨rfl, all⟩ | ⟨lo', hi', rfl, G⟩
    · exact absurd ((iff lo).mpr (all lo)) E.atLo
    · obtain ⟨rfl, rfl⟩ := (E.same fun x => (iff x).symm).uniq G
      rfl
end DR
namespace DR
open PySem PySem.Spec PyProof.Rows L2
theorem iteNF {c A B : Prop} [Decidable c] (hc : c) (h : B) : if (!decide c) = true then A else B := by
  rw [decide_eq_true hc]
  exact h
end DR
/-! ### programs that are lists all the way down, and what rewriting leaves of them (k38, k37, k40, k30) -/
namespace DR
open PySem PySem.Spec PyProof.Rows L2
mutual
inductive LI (K : PySem.W.Frag) (H : Hp) : V → Ins → Prop
  | step {a : Addr} {c : Int} : SqT K H a [.str "step", .int c] → LI K H (.ref a) (.step c)
  | turn {a : Addr} {c : Int} : SqT K H a [.str "turn", .int c] → LI K H (.ref a) (.turn c)
  | rep {a L : Addr} {n : Int} {xs : List V} {b : List Ins} : SqT K H a [.str "repeat", .int n, .ref L] → H L = some (.lst xs) → LIs K H xs b → LI K H (.ref a) (.rep n b)
inductive LIs (K : PySem.W.Frag) (H : Hp) : List V → List Ins → Prop
  | nil : LIs K H [] []
  | cons {x : V} {xs : List V} {i : Ins} {b : List Ins} : LI K H x i → LIs K H xs b → LIs K H (x :: xs) (i :: b)
end
section
variable {K : PySem.W.Frag} {H H' : Hp}
mutual
theorem LI.stay (ht : ∀ a us, SqT K H a us → SqT K H' a us) (hl : ∀ L xs, H L = some (.lst xs) → H' L = some (.lst xs)) : ∀ {x : V} {i : Ins}, LI K H x i → LI K H' x i
  | _, _, .step h => .step (ht _ _ h)
  | _, _, .turn h => .turn (ht _ _ h)
  | _, _, .rep h e q => .rep (ht _ _ h) (hl _ _ e) (LIs.stay ht hl q)
theorem LIs.stay (ht : ∀ a us, SqT K H a us → SqT K H' a us) (hl : ∀ L xs, H L = some (.lst xs) → H' L = some (.lst xs)) : ∀ {xs : List V} {b : List Ins}, LIs K H xs b → LIs K H' xs b
  | _, _, .nil => .nil
  | _, _, .cons h t => .cons (LI.stay ht hl h) (LIs.stay ht hl t)
end
theorem LI.same (e : Same H H') {x : V} {i : Ins} (h : LI K H x i) : LI K H' x i := h.stay (fun _ _ g => same_t e g) fun _ _ g => e _ _ g
theorem LIs.same (e : Same H H') {xs : List V} {b : List Ins} (h : LIs K H xs b) : LIs K H' xs b := h.stay (fun _ _ g => same_t e g) fun _ _ g => e _ _ g
theorem LI.kp {p c : Addr} {n : Nat} (pen : PenAt H p c n) (k : Kp p H H') {x : V} {i : Ins} (h : LI K H x i) : LI K H' x i := h.stay (fun _ _ g => tp_t (pen.tp k) g) fun _ _ g => kp_lst pen k g
theorem LIs.kp {p c : Addr} {n : Nat} (pen : PenAt H p c n) (k : Kp p H H') {xs : List V} {b : List Ins} (h : LIs K H xs b) : LIs K H' xs b := h.stay (fun _ _ g => tp_t (pen.tp k) g) fun _ _ g => kp_lst pen k g
mutual
theorem LI.iv : ∀ {x : V} {i : Ins}, LI K H x i → IV K H x i
  | _, _, .step h => iv_step h
  | _, _, .turn h => iv_turn h
  | _, _, .rep h e q => iv_rep h (pv_list (SqL.of e) (LIs.ivs q))
theorem LIs.ivs : ∀ {xs : List V} {b : List Ins}, LIs K H xs b → IVs K H xs b
  | _, _, .nil => .nil
  | _, _, .cons h t => .cons (LI.iv h) (LIs.ivs t)
end
theorem LIs.len {xs : List V} {b : List Ins} (h : LIs K H xs b) : xs.length = b.length := h.ivs.len
theorem LIs.app : ∀ {xs ys : List V} {b c : List Ins}, LIs K H xs b → LIs K H ys c → LIs K H (xs ++ ys) (b ++ c)
  | _, _, _, _, .nil, h => h
  | _, _, _, _, .cons r q, h => .cons r (LIs.app q h)
end
/-! shaped -/
/-- a list of instructions, as data -/
theorem LIs.dp {K : PySem.W.Frag} {H : Hp} {a : Addr} {xs : List V} {b : List Ins} (hI : LIs K H xs b) (h : SqL K H a xs) : ∃ ds, Dp K H (.ref a) (.list ds) ∧ IsP (.list ds) b ∧ (PyData.eqv (.list ds) (.list []) = decide (b = [])) := by
  obtain ⟨ds, a1, a2⟩ := hI.ivs.all
  refine ⟨ds, .lst h a1, .lst a2, ?_⟩
  cases a2 with
  | nil => exact (decide_eq_true rfl).symm
  | cons _ _ => exact (decide_eq_false fun z => by cases z).symm
/-! ### what rewriting leaves -/
def InN (m : Nat) (b : List Ins) : Prop := ∀ n bb, Ins.rep n bb ∈ b → (sdP bb).length ≤ m
theorem InN.app {m : Nat} {b c : List Ins} (h : InN m b) (g : InN m c) : InN m (b ++ c) := fun n bb hm => (List.mem_append.mp hm).elim (h n bb) (g n bb)
theorem sd_flat : ∀ {b : List Ins}, dpP b = 0 → sdP b = []
  | [], _ => sdP_nil
  | i :: r, h => by
    rw [dpP_cons] at h
    rw [sdP_cons, sd_flat (b := r) (by omega), List.append_nil]
    cases i with
    | step _ => rw [sdI]
    | turn _ => rw [sdI]
    | rep _ _ =>
      rw [dpI] at h
      omega
theorem InN.low {b : List Ins} (h : dpP b ≤ 1) (m : Nat) : InN m b := fun n bb hm => by
  have := dpP_mem hm
  rw [dpI] at this
  rw [sd_flat (by omega)]
  exact Nat.zero_le _
structure RwOk (k : Nat) (R : Int) (b : List Ins) : Prop where
  dp : dpP b < k
  w : WP b
  nn : NP b
  rp : RP R b
  inn : InN (k - 2) b
theorem RwOk.app {k : Nat} {R : Int} {b c : List Ins} (h : RwOk k R b) (g : RwOk k R c) : RwOk k R (b ++ c) := ⟨by have := h.dp; have := g.dp; rw [dpP_app]; omega, WP_app _ _ h.w g.w, NP_app _ _ h.nn g.nn, RP_app _ _ h.rp g.rp, h.inn.app g.inn⟩
theorem RwOk.nil {k : Nat} {R : Int} (hk : 0 < k) : RwOk k R [] := ⟨by rw [dpP]; exact hk, by rw [WP]; trivial, by rw [NP]; trivial, by rw [RP]; trivial, fun n bb hm => absurd hm List.not_mem_nil⟩
theorem RwOk.cons {k : Nat} {R : Int} {i : Ins} {r : List Ins} (h : RwOk k R (i :: r)) : RwOk k R [i] ∧ RwOk k R r := by
  obtain ⟨h1, h2, h3, h4, h5⟩ := h
  rw [dpP_cons] at h1
  rw [WP_cons] at h2
  rw [NP_cons] at h3
  rw [RP_cons] at h4
  have z : dpP [] = 0 := by rw [dpP]
  refine ⟨⟨by rw [dpP_cons, z]; omega, by rw [WP_cons, WP]; exact ⟨h2.1, trivial⟩, by rw [NP_cons, NP]; exact ⟨h3.1, trivial⟩, by rw [RP_cons, RP]; exact ⟨h4.1, trivial⟩, fun n bb hm => h5 n bb ?_⟩, ⟨by omega, h2.2, h3.2, h4.2, fun n bb hm => h5 n bb (List.mem_cons_of_mem _ hm)⟩⟩
  rw [List.mem_singleton.mp hm]
  exact List.mem_cons_self
theorem RwOk.parts : ∀ {b c : List Ins} {k : Nat} {R : Int}, 0 < k → RwOk k R (b ++ c) → RwOk k R b ∧ RwOk k R c
  | [], c, k, R, hk, h => ⟨.nil hk, h⟩
  | i :: b, c, k, R, hk, h => by
    obtain ⟨h1, h2⟩ := RwOk.cons (r := b ++ c) h
    obtain ⟨g1, g2⟩ := RwOk.parts hk h2
    exact ⟨h1.app g1, g2⟩
/-- what stands in a repeat is as good, one less deep -/
theorem RwOk.body {k : Nat} {R n : Int} {b : List Ins} (h : RwOk (k + 1) R [.rep n b]) (hk : k ≤ 2) : RwOk k R b ∧ n.natAbs ≤ 2 ^ 100 ∧ 0 ≤ n ∧ n ≤ R ∧ b.length ≤ 1024 ∧ (sdP b).length ≤ k + 1 - 2 := by
  obtain ⟨h1, h2, h3, h4, h5⟩ := h
  rw [dpP_cons, dpI, show dpP [] = 0 by rw [dpP]] at h1
  rw [WP_cons, WI] at h2
  rw [NP_cons, NI] at h3
  rw [RP_cons, RI] at h4
  exact ⟨⟨by omega, h2.1.2.2, h3.1.2, h4.1.2, InN.low (by omega) _⟩, h2.1.1, h3.1.1, h4.1.1, h2.1.2.1, h5 n b (List.mem_singleton.mpr rfl)⟩
structure Rw (k : Nat) (q R : Int) (b d : List Ins) : Prop where
  ok : RwOk k R d
  se : ∀ x, seP b x % q = seP d x % q
  sh : shP d = shP b
  cn : cnP d ≤ 2 * cnP b + 2
  sd : (sdP d).length ≤ (sdP b).length + (k - 2)
theorem mod_sum {a b c d q : Int} (h : a % q = b % q) (g : c % q = d % q) : (a + c) % q = (b + d) % q := by rw [Int.add_emod, h, g, ← Int.add_emod]
theorem Rw.mid {k : Nat} {q R : Int} {b1 m0 m b2 : List Ins} (h : Rw k q R m0 m) (o1 : RwOk k R b1) (o2 : RwOk k R b2) : Rw k q R (b1 ++ (m0 ++ b2)) (b1 ++ m ++ b2) := ⟨(o1.app h.ok).app o2, fun x => by
  rw [List.append_assoc, seP_app, seP_app, seP_app, seP_app, h.sh]
  exact mod_sum rfl (mod_sum (h.se _) rfl), by rw [shP_app, shP_app, shP_app, shP_app, h.sh]; omega, by
  have := h.cn
  rw [cnP_app, cnP_app, cnP_app, cnP_app]
  omega, by
  have := h.sd
  rw [sdP_app, sdP_app, sdP_app, sdP_app, List.length_append, List.length_append, List.length_append, List.length_append]
  omega⟩
end DR
namespace DR
open PySem PySem.Spec PyProof.Rows L2
def isRep : Ins → Bool
  | .rep _ _ => true
  | _ => false
end DR
namespace DR
open PySem PySem.Spec PyProof.Rows L2
theorem at_head (x : V) (r : List V) : atI (x :: r) 0 = some x := by
  unfold atI ixN
  rw [if_pos (Int.le_refl 0), if_pos (show (0 : Int) < ((x :: r).length : Int) by rw [List.length_cons]; omega)]
  rfl
theorem iteT {A B : Prop} (h : A) : if true = true then A else B := (if_pos rfl).mpr h
end DR
/-! ### rewritten programs side by side: what a first difference tells, as data (k38, k37, k40, k30) -/
namespace DR
open PySem PySem.Spec PyProof.Rows L2
/-- what a far function asks of a program: so many instructions, so many repeats -/
def PrN (N m : Nat) (b : List Ins) : Prop := dpP b < 3 ∧ WP b ∧ NP b ∧ cnP b ≤ N ∧ (sdP b).length ≤ m
theorem PrN.up {N m N' m' : Nat} {b : List Ins} (h : PrN N m b) (a : N ≤ N') (c : m ≤ m') : PrN N' m' b := ⟨h.1, h.2.1, h.2.2.1, Nat.le_trans h.2.2.2.1 a, Nat.le_trans h.2.2.2.2 c⟩
theorem PrN.flat {N m M R : Nat} {b c : List Ins} (h : PrN N m b) (f : Flat c M R) (hR : R ≤ 2 ^ 100) : PrN (N + M) m (b ++ c) := by
  have o := f.okS hR 0
  refine ⟨?_, WP_app _ _ h.2.1 o.r.ok.w, NP_app _ _ h.2.2.1 o.r.nn, ?_, ?_⟩
  · rw [dpP_app]
    have := o.r.ok.dp
    have := h.1
    omega
  · rw [cnP_app]
    have := o.r.ok.cn
    have := h.2.2.2.1
    omega
  · rw [sdP_app, List.length_append]
    have := o.st
    have := h.2.2.2.2
    omega
theorem PrS.n {b : List Ins} {k N m : Nat} {R : Int} (h : PrS b k N R m) (hk : k ≤ 2) : PrN N m b := ⟨by have := h.r.ok.dp; omega, h.r.ok.w, h.r.nn, h.r.ok.cn, h.st⟩
/-- rewritten so often -/
structure Twin (q R : Int) (j : Nat) (b d : List Ins) : Prop where
  ok : RwOk 3 R d
  se : ∀ x, seP b x % q = seP d x % q
  sh : shP d = shP b
  cn : cnP d + 2 ≤ 19 * 2 ^ j
  sd : (sdP d).length ≤ 2 + j
theorem Twin.n {q R : Int} {j : Nat} {b d : List Ins} (t : Twin q R j b d) (hj : j ≤ 3) : PrN 150 5 d := by
  refine ⟨t.ok.dp, t.ok.w, t.ok.nn, ?_, ?_⟩
  · have h := t.cn
    have : 2 ^ j ≤ 2 ^ 3 := Nat.pow_le_pow_right (by decide) hj
    omega
  · have := t.sd
    omega
/-- what a first difference of two programs is that can differ at one place alone -/
def diffD (q : Int) (b c : List Ins) (x : Int) : PyData :=
  if seP b x % q = seP c x % q then (if shP b = shP c then .none else .tuple [.str "shift", .int (shP b), .int (shP c)]) else .tuple [.str "dial", .int x, .int (seP b x % q), .int (seP c x % q)]
theorem Told.data {K : PySem.W.Frag} {H : Hp} {q : Int} {b c : List Ins} {v : V} (t : Told K H q b c v) (x : Int) (away : ∀ y, y ≠ x → seP b y % q = seP c y % q) : Dp K H v (diffD q b c x) := by
  unfold diffD
  rcases t with ⟨T, z, rfl, h1, h2, h3⟩ | ⟨T, rfl, h1, h2, h3⟩ | ⟨rfl, h1, h2⟩
  · have e : z = x := Classical.byContradiction fun ne => h2 (away z ne)
    subst e
    rw [if_neg h2]
    exact .tup h3 (.cons (.str _) (.cons (.int _) (.cons (.int _) (.cons (.int _) .nil))))
  · rw [if_pos (h1 x), if_neg h2]
    exact .tup h3 (.cons (.str _) (.cons (.int _) (.cons (.int _) .nil)))
  · rw [if_pos (h1 x), if_pos h2]
    exact .non
end DR
/-! ### how large rewritten programs become, and what is a program (k30) -/
namespace DR
open PySem PySem.Spec PyProof.Rows L2
/-- the bodies of the repeats: so many instructions at most -/
def InB (W : Nat) (b : List Ins) : Prop := ∀ n bb, Ins.rep n bb ∈ b → cnP bb ≤ W
/-- the bodies of the repeats within them -/
def InB2 (V : Nat) (b : List Ins) : Prop := ∀ n bb, Ins.rep n bb ∈ b → InB V bb
theorem InB.flat {b : List Ins} (h : dpP b = 0) (W : Nat) : InB W b := fun n bb hm => by
  have := dpP_mem hm
  rw [dpI] at this
  omega
theorem InB2.low {b : List Ins} (h : dpP b ≤ 1) (V : Nat) : InB2 V b := fun n bb hm => by
  have := dpP_mem hm
  rw [dpI] at this
  exact InB.flat (by omega) V
theorem InB.app {W : Nat} {b c : List Ins} (h : InB W b) (g : InB W c) : InB W (b ++ c) := fun n bb hm => (List.mem_append.mp hm).elim (h n bb) (g n bb)
theorem InB2.app {W : Nat} {b c : List Ins} (h : InB2 W b) (g : InB2 W c) : InB2 W (b ++ c) := fun n bb hm => (List.mem_append.mp hm).elim (h n bb) (g n bb)
theorem InB.up {W W' : Nat} {b : List Ins} (h : InB W b) (e : W ≤ W') : InB W' b := fun n bb hm => Nat.le_trans (h n bb hm) e
theorem InB2.up {W W' : Nat} {b : List Ins} (h : InB2 W b) (e : W ≤ W') : InB2 W' b := fun n bb hm => (h n bb hm).up e
theorem InB.sub {W : Nat} {b c : List Ins} (h : InB W b) (s : ∀ i ∈ c, i ∈ b) : InB W c := fun n bb hm => h n bb (s _ hm)
theorem InB2.sub {W : Nat} {b c : List Ins} (h : InB2 W b) (s : ∀ i ∈ c, i ∈ b) : InB2 W c := fun n bb hm => h n bb (s _ hm)
theorem CP_parts {M : Nat} : ∀ {b c : List Ins}, CP M (b ++ c) → CP M b ∧ CP M c
  | [], c, h => ⟨by rw [CP]; trivial, h⟩
  | i :: b, c, h => by
    rw [List.cons_append, CP_cons] at h
    obtain ⟨g1, g2⟩ := CP_parts h.2
    exact ⟨by rw [CP_cons]; exact ⟨h.1, g1⟩, g2⟩
theorem cp_body {M : Nat} {n : Int} {b : List Ins} (h : CP M [.rep n b]) : CP M b := by
  rw [CP_cons, CI] at h
  exact h.1
/-- what is asked of a program that is rewritten: counts, sizes -/
structure Sz (M W V : Nat) (b : List Ins) : Prop where
  cp : CP M b
  wb : InB W b
  vb : InB2 V b
theorem Sz.app {M W V : Nat} {b c : List Ins} (h : Sz M W V b) (g : Sz M W V c) : Sz M W V (b ++ c) := ⟨CP_app h.cp g.cp, h.wb.app g.wb, h.vb.app g.vb⟩
theorem Sz.up {M W V W' V' : Nat} {b : List Ins} (h : Sz M W V b) (a : W ≤ W') (c : V ≤ V') : Sz M W' V' b := ⟨h.cp, h.wb.up a, h.vb.up c⟩
theorem Sz.parts {M W V : Nat} {b c : List Ins} (h : Sz M W V (b ++ c)) : Sz M W V b ∧ Sz M W V c := ⟨⟨(CP_parts h.cp).1, h.wb.sub fun i hi => List.mem_append_left _ hi, h.vb.sub fun i hi => List.mem_append_left _ hi⟩, ⟨(CP_parts h.cp).2, h.wb.sub fun i hi => List.mem_append_right _ hi, h.vb.sub fun i hi => List.mem_append_right _ hi⟩⟩
theorem Sz.body {M W V : Nat} {n : Int} {b : List Ins} (h : Sz M W V [.rep n b]) (hd : dpP b ≤ 1) : Sz M V 0 b ∧ cnP b ≤ W := ⟨⟨cp_body h.cp, h.vb n b (List.mem_singleton.mpr rfl), InB2.low hd 0⟩, h.wb n b (List.mem_singleton.mpr rfl)⟩
/-- rewritten, with how large it became -/
structure RwS (k : Nat) (q R : Int) (M W V : Nat) (b d : List Ins) : Prop where
  rw_ : Rw k q R b d
  sz : Sz M (W + max 2 V) (V + 2) d
  cnS : cnP d ≤ cnP b + max 2 W
theorem RwS.mid {k M W V : Nat} {q R : Int} {b1 m0 m b2 : List Ins} (h : RwS k q R M W V m0 m) (o1 : RwOk k R b1) (o2 : RwOk k R b2) (z1 : Sz M W V b1) (z2 : Sz M W V b2) : RwS k q R M W V (b1 ++ (m0 ++ b2)) (b1 ++ m ++ b2) := ⟨h.rw_.mid o1 o2, ((z1.up (by omega) (by omega)).app h.sz).app (z2.up (by omega) (by omega)), by
  have := h.cnS
  rw [cnP_app, cnP_app, cnP_app, cnP_app]
  omega⟩
/-! a program of the program's own bounds -/
def sp_is_count (K : PySem.W.Frag) : Sp := fun vs H Q _ => ∃ z : Int, vs = [.int z] ∧ z.natAbs ≤ 10 ^ 30 ∧ Q (.bl true) H
def sp_is_step_or_turn (K : PySem.W.Frag) : Sp := fun vs H Q _ => ∃ (v : V) (i : Ins), vs = [v] ∧ IV K H v i ∧ CI (10 ^ 30) i ∧ ∀ H', Same H H' → Q (.bl (!isRep i)) H'
def sp_begins_as_repeat (K : PySem.W.Frag) : Sp := fun vs H Q _ => ∃ (v : V) (n : Int) (bb : List Ins), vs = [v] ∧ IV K H v (.rep n bb) ∧ 0 ≤ n ∧ n ≤ 10 ^ 30 ∧ Q (.bl true) H
def sp_sizes_of (K : PySem.W.Frag) (k : Nat) : Sp := fun vs H Q _ => ∃ (v : V) (d : Int) (b : List Ins), vs = [v, .int d] ∧ PV K H v b ∧ dpP b < k ∧ k ≤ 3 ∧ (dpP b : Int) ≤ d ∧ d ≤ 2 ∧ CP (10 ^ 30) b ∧ NP b ∧ RP (10 ^ 30) b ∧ cnP b ≤ 100 ∧ (sdP b).length ≤ 5 ∧
  ∀ T H', Same H H' → SqT K H' T [.int (cnP b), .int ((sdP b).length : Int)] → Q (.ref T) H'
def sp_is_program (K : PySem.W.Frag) : Sp := fun vs H Q _ => ∃ (v : V) (b : List Ins), vs = [v] ∧ PV K H v b ∧ dpP b < 3 ∧ CP (10 ^ 30) b ∧ NP b ∧ RP (10 ^ 30) b ∧ cnP b ≤ 100 ∧ (sdP b).length ≤ 5 ∧ ∀ H', Same H H' → Q (.bl true) H'
end DR
namespace DR
theorem CP_mem {M : Nat} : ∀ {b : List Ins} {i : Ins}, CP M b → i ∈ b → CI M i
  | [], _, _, h => absurd h List.not_mem_nil
  | j :: r, i, w, h => by
    rw [CP_cons] at w
    rcases List.mem_cons.mp h with e | e
    · rw [e]; exact w.1
    · exact CP_mem w.2 e
end DR
/-! ### first differences of three programs (k40) -/
namespace DR
open PySem PySem.Spec PyProof.Rows L2
/-- where two rows of values part first -/
def DF (f g : Int → Int) (zs : List Int) : Prop := (∃ x, zs = [x] ∧ (∀ y, y < x → f y = g y) ∧ f x ≠ g x) ∨ (zs = [] ∧ ∀ y, f y = g y)
theorem DF.uniq {f g : Int → Int} {zs ws : List Int} (h : DF f g zs) (k : DF f g ws) : zs = ws := by
  rcases h with ⟨x, rfl, h1, h2⟩ | ⟨rfl, h⟩
  · rcases k with ⟨y, rfl, k1, k2⟩ | ⟨rfl, k⟩
    · rcases Int.lt_trichotomy x y with z | z | z
      · exact absurd (k1 x z) h2
      · rw [z]
      · exact absurd (h1 y z) k2
    · exact absurd (k x) h2
  · rcases k with ⟨y, rfl, k1, k2⟩ | ⟨rfl, k⟩
    · exact absurd (h y) k2
    · rfl
theorem DF.len {f g : Int → Int} {zs : List Int} (h : DF f g zs) : zs = [] ∨ ∃ x, zs = [x] := by
  rcases h with ⟨x, e, _⟩ | ⟨e, _⟩
  · exact .inr ⟨x, e⟩
  · exact .inl e
/-- the rows of two programs -/
abbrev rowP (q : Int) (b : List Ins) : Int → Int := fun y => seP b y % q
/-- what is told, as data, and it depends on what the programs leave alone -/
def TD (q : Int) (b c : List Ins) (d : PyData) : Prop := (∃ x, (∀ y, y < x → seP b y % q = seP c y % q) ∧ seP b x % q ≠ seP c x % q ∧ d = .tuple [.str "dial", .int x, .int (seP b x % q), .int (seP c x % q)]) ∨ ((∀ y, seP b y % q = seP c y % q) ∧ shP b ≠ shP c ∧ d = .tuple [.str "shift", .int (shP b), .int (shP c)]) ∨ ((∀ y, seP b y % q = seP c y % q) ∧ shP b = shP c ∧ d = .none)
theorem TD.uniq {q : Int} {b c b' c' : List Ins} {d e : PyData} (t : TD q b c d) (u : TD q b' c' e) (hb : ∀ y, seP b y % q = seP b' y % q) (hc : ∀ y, seP c y % q = seP c' y % q) (sb : shP b = shP b') (sc : shP c = shP c') : d = e := by
  rcases t with ⟨x, h1, h2, rfl⟩ | ⟨h1, h2, rfl⟩ | ⟨h1, h2, rfl⟩
  · rcases u with ⟨y, k1, k2, rfl⟩ | ⟨k1, k2, rfl⟩ | ⟨k1, k2, rfl⟩
    · have : x = y := by
        rcases Int.lt_trichotomy x y with z | z | z
        · exact absurd ((hb x).trans ((k1 x z).trans (hc x).symm)) h2
        · exact z
        · exact absurd ((hb y).symm.trans ((h1 y z).trans (hc y))) k2
      subst this
      rw [hb, hc]
    · exact absurd ((hb x).trans ((k1 x).trans (hc x).symm)) h2
    · exact absurd ((hb x).trans ((k1 x).trans (hc x).symm)) h2
  · rcases u with ⟨y, k1, k2, rfl⟩ | ⟨k1, k2, rfl⟩ | ⟨k1, k2, rfl⟩
    · exact absurd ((hb y).symm.trans ((h1 y).trans (hc y))) k2
    · rw [sb, sc]
    · exact absurd (sb.trans (k2.trans sc.symm)) h2
  · rcases u with ⟨y, k1, k2, rfl⟩ | ⟨k1, k2, rfl⟩ | ⟨k1, k2, rfl⟩
    · exact absurd ((hb y).symm.trans ((h1 y).trans (hc y))) k2
    · exact absurd (sb.symm.trans (h2.trans sc)) k2
    · rfl
/-- a common beginning moves it alone -/
theorem DF.moved {q : Int} {a b c : List Ins} {zs : List Int} (h : DF (rowP q b) (rowP q c) zs) : DF (rowP q (a ++ b)) (rowP q (a ++ c)) (zs.map fun x => x + shP a) := by
  have e : ∀ d y, rowP q (a ++ d) y = (seP a y % q + rowP q d (y - shP a)) % q := fun d y => by
    show seP (a ++ d) y % q = (seP a y % q + seP d (y - shP a) % q) % q
    rw [seP_app, Int.add_emod]
  have back : ∀ y, rowP q (a ++ b) y = rowP q (a ++ c) y ↔ rowP q b (y - shP a) = rowP q c (y - shP a) := fun y => by
    rw [e, e]
    refine ⟨fun z => ?_, fun z => by rw [z]⟩
    have z1 : (seP a y % q + seP b (y - shP a) % q - seP a y % q) % q = (seP a y % q + seP c (y - shP a) % q - seP a y % q) % q := by
      rw [Int.sub_emod, z, ← Int.sub_emod]
    rw [show seP a y % q + seP b (y - shP a) % q - seP a y % q = seP b (y - shP a) % q by omega, show seP a y % q + seP c (y - shP a) % q - seP a y % q = seP c (y - shP a) % q by omega, Int.emod_emod, Int.emod_emod] at z1
    exact z1
  rcases h with ⟨x, rfl, h1, h2⟩ | ⟨rfl, h⟩
  · refine .inl ⟨x + shP a, rfl, fun y hy => (back y).mpr (h1 _ (by omega)), fun z => h2 ?_⟩
    have := (back _).mp z
    rwa [show x + shP a - shP a = x by omega] at this
  · exact .inr ⟨rfl, fun y => (back y).mpr (h _)⟩
end DR
namespace DR
open PySem PySem.Spec PyProof.Rows L2
theorem Told.tp {K : PySem.W.Frag} {H H' : Hp} {q : Int} {b c : List Ins} {v : V} (t : Told K H q b c v) (k : Tp H H') : Told K H' q b c v := by
  rcases t with ⟨T, x, e, h1, h2, h3⟩ | ⟨T, e, h1, h2, h3⟩ | h
  · exact .inl ⟨T, x, e, h1, h2, tp_t k h3⟩
  · exact .inr (.inl ⟨T, e, h1, h2, tp_t k h3⟩)
  · exact .inr (.inr h)
end DR
/-! ### two programs run step by step (k37) -/
namespace DR
open PySem PySem.Spec PyProof.Rows L2
theorem key_list (g : Pol) : ((kvOf g).map fun kv => kV kv.1) = (g.map (·.1)).map V.int := by
  unfold kvOf
  rw [List.map_map, List.map_map]
  rfl
end DR
/-! ### a token taken for a number -/
namespace DR
open PySem PySem.Spec PyProof.Rows L2 TL
/-! [f(sign) for sign in text] -/
theorem lcSign {tv : TE} {σ : L2.St} {H : Hp} {vs : List Nat} {i : Nat} {te : TE} {Q : VK} {z : Str} (g : Nat → Bool) (hz : z.length ≤ 100000) (hv : ∀ R : VK, R (.str z) H → tv σ H R)
    (hw : ∀ x, wipe ((wipe σ vs).set i (some x)) vs = wipe σ vs)
    (he : ∀ (c : Nat) (H2 : Hp) (R : VK), R (.bl (g c)) H2 → te ((wipe σ vs).set i (some (.str ⟨#[c]⟩))) H2 R)
    (k : ∀ D H2, Same H H2 → H D = none → H2 D = some (.lst ((z.cps.toList.map g).map V.bl)) → Q (.ref D) H2) : tLc (iStr tv) (gName i) tYes te vs σ H Q := by
  refine hv _ ⟨z, rfl, ?_⟩
  intro D nD
  have len : z.cps.toList.length = z.length := Array.length_toList
  refine lc_it (walk_str (z := z)) (fun m H2 => H2 D = some (.lst (((z.cps.toList.take m).map g).map V.bl)) ∧ Same H H2) ⟨upd_same, same_new nD⟩ (fun _ _ _ _ => trivial) ?_ ?_
  · rintro m v H2 H3 hm ⟨hD, s2⟩ ⟨rfl, c, hc, rfl⟩
    refine ⟨hw _, ?_⟩
    dsimp only [tYes]
    rw [if_pos rfl]
    refine he c H3 _ ?_
    have hcl : z.cps.toList[m]? = some c := by rw [Array.getElem?_toList]; exact hc
    refine ⟨_, hD, ?_, ?_⟩
    · rw [List.length_map, List.length_map, List.length_take]
      exact sl_lt (by omega)
    · refine ⟨?_, same_mut s2 nD⟩
      rw [upd_same, take_snoc hcl, List.map_append, List.map_append]
      rfl
  · rintro H2 ⟨hD, s2⟩
    rw [show z.cps.size = z.cps.toList.length from Array.length_toList.symm, List.take_length] at hD
    exact k D H2 s2 nD hD
end DR
/-! ### reading an instruction, step by step -/
namespace DR
open PySem PySem.Spec PyProof.Rows L2
/-- what stands inside a repeat, where as many repeats may still stand inside one another -/
def inn (T : List Str) : Nat → RS → Rd (List Ins)
  | 0, s => .bad s.p
  | k + 1, s => rdL T (rdI T k) (T.length + 1) s
end DR
/-! ### the tokens read one by one, with a stack -/
namespace DR
open PySem PySem.Spec PyProof.Rows L2 TL
inductive Want where
  | word
  | count (wd : Str)
  | bracket (c : Int)
/-- what was read so far: what may stand next, the instructions of the innermost program, the programs around it -/
structure Mst where
  w : Want
  cur : List Ins
  stk : List (List Ins × Int)
  n : Nat
  r : Nat
end DR
/-! ### programs within the bounds of the document -/
namespace DR
open PySem PySem.Spec PyProof.Rows L2
structure GdP (b : List Ins) (k N m : Nat) : Prop where
  d : dpP b ≤ k
  g : CtP b
  c : cnP b ≤ N
  r : rpP b ≤ m
theorem ctP_app : ∀ {a b : List Ins}, CtP a → CtP b → CtP (a ++ b)
  | [], b, _, h => h
  | i :: r, b, h, h2 => by
    rw [List.cons_append, CtP_cons]
    rw [CtP_cons] at h
    exact ⟨h.1, ctP_app h.2 h2⟩
theorem rpP_app : ∀ a b : List Ins, rpP (a ++ b) = rpP a + rpP b
  | [], b => by rw [List.nil_append, rpP_nil, Nat.zero_add]
  | i :: r, b => by rw [List.cons_append, rpP_cons, rpP_cons, rpP_app r b, Nat.add_assoc]
theorem GdP.app {b c : List Ins} {k j N M m l : Nat} (h : GdP b k N m) (h2 : GdP c j M l) : GdP (b ++ c) (max k j) (N + M) (m + l) :=
  ⟨by rw [dpP_app]; have := h.d; have := h2.d; omega, ctP_app h.g h2.g, by rw [cnP_app]; have := h.c; have := h2.c; omega, by rw [rpP_app]; have := h.r; have := h2.r; omega⟩
theorem GdP.rep {b : List Ins} {k N m : Nat} {n : Int} (h : GdP b k N m) (h0 : 0 ≤ n) (h9 : n ≤ 10 ^ 30) : GdP [.rep n b] (k + 1) (N + 1) (m + 1) := by
  refine ⟨?_, ?_, ?_, ?_⟩
  · rw [dpP_cons, dpI, dpP_nil']
    have := h.d
    omega
  · rw [CtP_cons, CtI]
    exact ⟨⟨h0, h9, h.g⟩, by unfold CtP; trivial⟩
  · rw [cnP_cons, cnI, cnP_nil']
    have := h.c
    omega
  · rw [rpP_cons, rpI, rpP_nil]
    have := h.r
    omega
theorem GdP.up {b : List Ins} {k j N M m l : Nat} (h : GdP b k N m) (h1 : k ≤ j) (h2 : N ≤ M) (h3 : m ≤ l) : GdP b j M l := ⟨Nat.le_trans h.d h1, h.g, Nat.le_trans h.c h2, Nat.le_trans h.r h3⟩
theorem flat_gd : ∀ {b : List Ins} {N R : Nat}, Flat b N R → R ≤ 10 ^ 30 → CtP b ∧ rpP b = 0
  | [], _, _, _, _ => ⟨by unfold CtP; trivial, rpP_nil⟩
  | i :: r, N, R, h, hR => by
    have h1 := h.flat i List.mem_cons_self
    have h2 := h.cnt i List.mem_cons_self
    have ih := flat_gd (b := r) (N := N) (R := R) ⟨by have := h.len; rw [List.length_cons] at this; omega, fun j hj => h.flat j (List.mem_cons_of_mem _ hj), fun j hj => h.cnt j (List.mem_cons_of_mem _ hj)⟩ hR
    rw [CtP_cons, rpP_cons, ih.2]
    cases i with
    | step c =>
      rw [CtI, rpI]
      exact ⟨⟨Nat.le_trans h2 hR, ih.1⟩, rfl⟩
    | turn c =>
      rw [CtI, rpI]
      exact ⟨⟨Nat.le_trans h2 hR, ih.1⟩, rfl⟩
    | rep n b => exact absurd h1 id
theorem Flat.gd {b : List Ins} {N R : Nat} (h : Flat b N R) (hR : R ≤ 10 ^ 30) : GdP b 0 N 0 := ⟨Nat.le_of_eq h.dp, (flat_gd h hR).1, by rw [h.cn]; exact h.len, Nat.le_of_eq (flat_gd h hR).2⟩
theorem ct_wp : ∀ {b : List Ins} (N : Nat), N ≤ 1024 → cnP b ≤ N → CtP b → WP b
  | [], _, _, _, _ => by unfold WP; trivial
  | i :: r, N, hN, hc, h => by
    rw [CtP_cons] at h
    rw [cnP_cons] at hc
    rw [WP_cons]
    have big : (10 : Nat) ^ 30 ≤ 2 ^ 100 := by decide +kernel
    refine ⟨?_, ct_wp N hN (by omega) h.2⟩
    cases i with
    | step c =>
      rw [CtI] at h
      rw [WI]
      exact Nat.le_trans h.1 big
    | turn c =>
      rw [CtI] at h
      rw [WI]
      exact Nat.le_trans h.1 big
    | rep n b =>
      rw [CtI] at h
      rw [cnI] at hc
      rw [WI]
      have := len_cnP b
      exact ⟨Nat.le_trans (show n.natAbs ≤ 10 ^ 30 by omega) big, by omega, ct_wp N hN (by omega) h.1.2.2⟩
theorem GdP.ok {b : List Ins} {k N m : Nat} (h : GdP b k N m) (hN : N ≤ 1024) : PrOk b k N := ⟨h.d, ct_wp N hN h.c h.g, h.c⟩
def sp__law_bodyG (K : PySem.W.Frag) : Sp := fun vs H Q _ => ∃ (p c : Addr) (most reach : Int) (n : Nat), vs = [.ref p, .int most, .int reach] ∧ 0 ≤ most ∧ most ≤ 100 ∧ 0 ≤ reach ∧ reach.natAbs < 10 ^ 90 ∧ PenAt H p c n ∧ n < 2 ^ 39 ∧
  ∀ D xs b H', H D = none → Kp p H H' → PenAt H' p c (n + 3 * most.toNat + 1) → H' D = some (.lst xs) → FIs K H' xs b → Flat b most.toNat (max reach.natAbs 3) → Q (.ref D) H'
end DR
/-! ### texts of programs -/
namespace DR
open PySem PySem.Spec PyProof.Rows L2 TL
/-! the data of a program that is lists all the way down -/
mutual
def ldI : Ins → PyData
  | .step c => .tuple [.str "step", .int c]
  | .turn c => .tuple [.str "turn", .int c]
  | .rep n b => .tuple [.str "repeat", .int n, .list (ldA b)]
def ldA : List Ins → List PyData
  | [] => []
  | i :: r => ldI i :: ldA r
end
section
variable {K : PySem.W.Frag} {H0 H H' : Hp}
mutual
theorem NwI.dp : ∀ {x : V} {i : Ins}, NwI K H0 H x i → Dp K H x (ldI i)
  | _, _, .step h => by
    rw [ldI]
    exact .tup h (.cons (.str _) (.cons (.int _) .nil))
  | _, _, .turn h => by
    rw [ldI]
    exact .tup h (.cons (.str _) (.cons (.int _) .nil))
  | _, _, .rep h _ e q => by
    rw [ldI]
    exact .tup h (.cons (.str _) (.cons (.int _) (.cons (.lst (SqL.of e) (NwP.dpA q)) .nil)))
theorem NwP.dpA : ∀ {xs : List V} {b : List Ins}, NwP K H0 H xs b → DpAll K H xs (ldA b)
  | _, _, .nil => by
    rw [ldA]
    exact .nil
  | _, _, .cons h t => by
    rw [ldA]
    exact .cons (NwI.dp h) (NwP.dpA t)
end
theorem NwP.dp {a : Addr} {xs : List V} {b : List Ins} (h : NwP K H0 H xs b) (e : H a = some (.lst xs)) : Dp K H (.ref a) (.list (ldA b)) := .lst (SqL.of e) h.dpA
end
/-! [f(part) for part in program], each part made anew or kept -/
end DR
namespace DR
open PySem PySem.Spec PyProof.Rows L2
/-! ### tuples of any data, cut and put together -/
section
variable {K : PySem.W.Frag} {H0 H H' : Hp} {v u : V} {n m : Nat} {Q : VK}
def TV (K : PySem.W.Frag) (H0 H : Hp) (v : V) (n : Nat) : Prop := ∃ (a : Addr) (xs : List V) (ds : List PyData), v = .ref a ∧ SqT K (er H0 H) a xs ∧ DpAll K (er H0 H) xs ds ∧ (∀ d ∈ ds, Nice 25000 3 d) ∧ ds.length ≤ n
theorem TV.same (s : Same H H') (h : TV K H0 H v n) : TV K H0 H' v n := by
  obtain ⟨a, xs, ds, e, h1, h2, h3⟩ := h
  exact ⟨a, xs, ds, e, same_t (er_same s) h1, DpAll.same (er_same s) h2, h3⟩
theorem TV.mono (h : TV K H0 H v n) (hm : n ≤ m) : TV K H0 H v m := by
  obtain ⟨a, xs, ds, e, h1, h2, h3, h4⟩ := h
  exact ⟨a, xs, ds, e, h1, h2, h3, Nat.le_trans h4 hm⟩
theorem TV.sq (h : TV K H0 H v n) : ∃ a xs, v = .ref a ∧ SqT K H a xs ∧ xs.length ≤ n := by
  obtain ⟨a, xs, ds, e, h1, h2, _, h4⟩ := h
  exact ⟨a, xs, e, same_t (er_sub H0 H) h1, by rw [DpAll.len h2]; exact h4⟩
end
def FN (n k : Nat) (K : PySem.W.Frag) (H : Hp) (v : V) : Prop := ∃ d, Dp K H v d ∧ Nice n k d
section
variable {K : PySem.W.Frag} {H0 H H' : Hp} {v w x : V} {n k : Nat} {b : Addr}
theorem FN.same (e : Same H H') (h : FN n k K H v) : FN n k K H' v := h.elim fun d z => ⟨d, Dp.same e z.1, z.2⟩
theorem FN.up {n' k' : Nat} (h : FN n k K H v) (a : n ≤ n') (c : k ≤ k') : FN n' k' K H v := h.elim fun d z => ⟨d, z.1, z.2.up a c⟩
end
end DR
/-! ### texts: their signs, text * int, repr of texts -/
namespace L2
open PySem PySem.Spec PyProof.Rows PySem.P
end L2
namespace DR
open PySem PySem.Spec PyProof.Rows L2 TL
/-- signs below 128 -/
def Low (t : Str) : Prop := ∀ c ∈ tl t, c < 128
instance (t : Str) : Decidable (Low t) := by unfold Low; exact inferInstance
theorem low_joinL : ∀ {ps : List (List Nat)}, (∀ p ∈ ps, ∀ c ∈ p, c < 128) → ∀ c ∈ joinL [32] ps, c < 128
  | [], _, c, h => absurd h List.not_mem_nil
  | [p], hp, c, h => hp p List.mem_cons_self c h
  | p :: q :: r, hp, c, h => by
    rw [joinL_cons (by simp)] at h
    rcases List.mem_append.mp h with h | h
    · exact hp p List.mem_cons_self c h
    · rcases List.mem_append.mp h with h | h
      · rw [List.mem_singleton.mp h]
        decide
      · exact low_joinL (fun x hx => hp x (List.mem_cons_of_mem _ hx)) c h
theorem low_jn {ts : List Str} (h : ∀ t ∈ ts, Low t) : Low (jn ts) := fun c hc => by
  rw [tl_jn] at hc
  refine low_joinL (fun p hp => ?_) c hc
  obtain ⟨t, ht, rfl⟩ := List.mem_map.mp hp
  exact h t ht
/-- a program that is lists all the way down -/
def AllL (K : PySem.W.Frag) (H : Hp) (v : V) (b : List Ins) : Prop := ∃ a xs, v = .ref a ∧ H a = some (.lst xs) ∧ NwP K (fun _ => none) H xs b
theorem AllL.same {K : PySem.W.Frag} {H H' : Hp} {v : V} {b : List Ins} (s : Same H H') (h : AllL K H v b) : AllL K H' v b := by
  obtain ⟨a, xs, rfl, h1, h2⟩ := h
  exact ⟨a, xs, rfl, s _ _ h1, h2.same s⟩
theorem AllL.dp {K : PySem.W.Frag} {H : Hp} {v : V} {b : List Ins} (h : AllL K H v b) : Dp K H v (.list (ldA b)) := by
  obtain ⟨a, xs, rfl, h1, h2⟩ := h
  exact h2.dp h1
end DR
/-! ### pieces of texts; a token that is taken for a count -/
namespace DR
open PySem PySem.Spec PyProof.Rows L2 TL
theorem sIx_nat (n d k : Nat) : HT.sIx n d (some (k : Int)) = min k n := by
  unfold HT.sIx
  dsimp only
  rw [if_neg (by omega)]
  rfl
/-! [sign for sign in text if p(sign)] -/
/-! the law's own reader -/
end DR
/-! ### the law's own reader, token by token: its lists -/
namespace DR
open PySem PySem.Spec PyProof.Rows L2 TL
/-- these lists are still written to: no finished part holds them -/
def Opn (l : List Addr) : Hp := fun L => if L ∈ l then some (.lst []) else none
theorem opn_not {l : List Addr} {L : Addr} (h : Opn l L = none) : L ∉ l := fun z => by
  unfold Opn at h
  rw [if_pos z] at h
  cases h
theorem opn_free {l : List Addr} {L : Addr} (h : L ∉ l) : Opn l L = none := if_neg h
section
variable {K : PySem.W.Frag} {H H' : Hp} {l l' : List Addr} {D : Addr}
mutual
theorem NwI.more (nD : H D = none) : ∀ {x : V} {i : Ins}, NwI K (Opn l) H x i → NwI K (Opn (D :: l)) H x i
  | _, _, .step h => .step h
  | _, _, .turn h => .turn h
  | _, _, .rep h n e q => .rep h (opn_free fun z => by
      rcases List.mem_cons.mp z with rfl | z
      · rw [nD] at e
        cases e
      · exact opn_not n z) e (NwP.more nD q)
theorem NwP.more (nD : H D = none) : ∀ {xs : List V} {b : List Ins}, NwP K (Opn l) H xs b → NwP K (Opn (D :: l)) H xs b
  | _, _, .nil => .nil
  | _, _, .cons h t => .cons (NwI.more nD h) (NwP.more nD t)
end
theorem NwP.sub (hs : ∀ a ∈ l', a ∈ l) {xs : List V} {b : List Ins} (h : NwP K (Opn l) H xs b) : NwP K (Opn l') H xs b := NwP.less (fun a n => opn_free fun z => opn_not n (hs a z)) h
theorem NwP.put {a : Addr} {ys zs xs : List V} {b : List Ins} (hl : a ∈ l) (ha : H a = some (.lst ys)) (h : NwP K (Opn l) H xs b) : NwP K (Opn l) (upd H a (.lst zs)) xs b :=
  h.stay (fun _ _ g => tp_t (tp_lst ha) g) fun L xs n e => by
    have : L ≠ a := fun z => opn_not n (z ▸ hl)
    rw [upd_ne this]
    exact e
/-- the bodies that are still open, the innermost first -/
inductive Bds (K : PySem.W.Frag) (G H : Hp) : List Addr → List (List Ins) → Prop
  | nil : Bds K G H [] []
  | cons {a : Addr} {r : List Addr} {xs : List V} {b : List Ins} {bs : List (List Ins)} : H a = some (.lst xs) → NwP K G H xs b → Bds K G H r bs → Bds K G H (a :: r) (b :: bs)
theorem Bds.same {G : Hp} (e : Same H H') : ∀ {r : List Addr} {bs : List (List Ins)}, Bds K G H r bs → Bds K G H' r bs
  | _, _, .nil => .nil
  | _, _, .cons h q t => .cons (e _ _ h) (q.same e) (Bds.same e t)
theorem Bds.more (nD : H D = none) : ∀ {r : List Addr} {bs : List (List Ins)}, Bds K (Opn l) H r bs → Bds K (Opn (D :: l)) H r bs
  | _, _, .nil => .nil
  | _, _, .cons h q t => .cons h (q.more nD) (Bds.more nD t)
theorem Bds.sub (hs : ∀ a ∈ l', a ∈ l) : ∀ {r : List Addr} {bs : List (List Ins)}, Bds K (Opn l) H r bs → Bds K (Opn l') H r bs
  | _, _, .nil => .nil
  | _, _, .cons h q t => .cons h (q.sub hs) (Bds.sub hs t)
theorem Bds.put {a : Addr} {ys zs : List V} (hl : a ∈ l) (ha : H a = some (.lst ys)) : ∀ {r : List Addr} {bs : List (List Ins)}, a ∉ r → Bds K (Opn l) H r bs → Bds K (Opn l) (upd H a (.lst zs)) r bs
  | [], _, _, .nil => .nil
  | c :: _, _, n, .cons h q t => .cons (by
      have : c ≠ a := fun z => n (z ▸ List.mem_cons_self)
      rw [upd_ne this]
      exact h) (q.put hl ha) (Bds.put hl ha (fun z => n (List.mem_cons_of_mem _ z)) t)
end
def rsW : Want → List Int
  | .word => []
  | .count _ => []
  | .bracket c => [c]
/-- the rounds of the open repeats, the innermost first -/
def rsOf (s : Mst) : List Int := rsW s.w ++ s.stk.map (·.2)
def dpW : Want → Nat
  | .word => 0
  | .count w => if w = "repeat" then 1 else 0
  | .bracket _ => 1
structure LR (K : PySem.W.Frag) (HT H : Hp) (BO RO : Addr) (bs : List Addr) (m : Nat) (s : Mst) : Prop where
  bo : H BO = some (.lst (bs.reverse.map V.ref))
  ro : H RO = some (.lst ((rsOf s).reverse.map V.int))
  bd : Bds K (Opn (BO :: RO :: bs)) H bs (s.cur :: s.stk.map (·.1))
  nd : (BO :: RO :: bs).Nodup
  nw : ∀ a ∈ BO :: RO :: bs, HT a = none
  sm : Same HT H
  n : s.n ≤ 100
  dp : s.stk.length + dpW s.w ≤ 2
  sz : ∀ b ∈ s.cur :: s.stk.map (·.1), b.length ≤ m
section
variable {K : PySem.W.Frag} {HT H : Hp} {BO RO : Addr} {bs : List Addr} {m : Nat} {s : Mst}
theorem LR.up (L : LR K HT H BO RO bs m s) {m' : Nat} (h : m ≤ m') : LR K HT H BO RO bs m' s := ⟨L.bo, L.ro, L.bd, L.nd, L.nw, L.sm, L.n, L.dp, fun b hb => Nat.le_trans (L.sz b hb) h⟩
theorem LR.same {H' : Hp} (e : Same H H') (L : LR K HT H BO RO bs m s) : LR K HT H' BO RO bs m s := ⟨e _ _ L.bo, e _ _ L.ro, L.bd.same e, L.nd, L.nw, L.sm.trans e, L.n, L.dp, L.sz⟩
theorem LR.apart (L : LR K HT H BO RO bs m s) : BO ≠ RO ∧ BO ∉ bs ∧ RO ∉ bs ∧ bs.Nodup := by
  have h1 := List.nodup_cons.mp L.nd
  have h2 := List.nodup_cons.mp h1.2
  exact ⟨fun z => h1.1 (z ▸ List.mem_cons_self), fun z => h1.1 (List.mem_cons_of_mem _ z), h2.1, h2.2⟩
/-- a step or a turn is read -/
theorem LR.ins {w : Want} {cur : List Ins} {stk : List (List Ins × Int)} {n r : Nat} {i : Ins} {b : Addr} {bs : List Addr} {T : Addr} {o : HO} {ys : List V} (L : LR K HT H BO RO (b :: bs) m ⟨w, cur, stk, n, r⟩) (hw : rsW w = []) (nT : H T = none) (hb : H b = some (.lst ys)) (hi : NwI K (Opn (BO :: RO :: b :: bs)) (upd H T o) (.ref T) i) :
    LR K HT (upd (upd H T o) b (.lst (ys ++ [V.ref T]))) BO RO (b :: bs) (m + 1) ⟨.word, cur ++ [i], stk, n, r⟩ := by
  have s1 := same_new nT (o := o)
  have L1 := L.same s1
  obtain ⟨a1, a2, a3, a4⟩ := L1.apart
  have hb1 := s1 _ _ hb
  have inb : b ∈ BO :: RO :: b :: bs := by simp
  have nb : b ∉ bs := (List.nodup_cons.mp a4).1
  refine ⟨?_, ?_, ?_, L.nd, L.nw, same_mut L1.sm (L.nw b inb), L.n, ?_, ?_⟩
  · rw [upd_ne fun z => a2 (by rw [z]; exact List.mem_cons_self)]
    exact L1.bo
  · rw [upd_ne fun z => a3 (by rw [z]; exact List.mem_cons_self)]
    have := L1.ro
    unfold rsOf at this ⊢
    rw [hw] at this
    exact this
  · have hbd := L1.bd
    cases hbd with
    | cons h q t =>
      rw [hb1] at h
      cases h
      exact .cons upd_same ((q.app (.cons hi .nil)).put inb hb1) (t.put inb hb1 nb)
  · have := L.dp
    show stk.length + 0 ≤ 2
    change stk.length + dpW w ≤ 2 at this
    omega
  · intro q hq
    rcases List.mem_cons.mp hq with rfl | hq
    · have : cur.length ≤ m := L.sz cur (by simp)
      rw [List.length_append]
      exact Nat.succ_le_succ this
    · exact Nat.le_succ_of_le (L.sz q (List.mem_cons_of_mem _ hq))
/-- a repeat begins -/
theorem LR.push {cur : List Ins} {stk : List (List Ins × Int)} {n r : Nat} {c : Int} {D : Addr} (L : LR K HT H BO RO bs m ⟨.bracket c, cur, stk, n, r⟩) (nD : H D = none) :
    LR K HT (upd (upd H D (.lst [])) BO (.lst (bs.reverse.map V.ref ++ [V.ref D]))) BO RO (D :: bs) m ⟨.word, [], (cur, c) :: stk, n, r⟩ := by
  have s1 := same_new nD (o := HO.lst [])
  have L1 := L.same s1
  obtain ⟨a1, a2, a3, a4⟩ := L1.apart
  have nBD : BO ≠ D := fun z => by
    have := L.bo
    rw [z, nD] at this
    cases this
  have nRD : RO ≠ D := fun z => by
    have := L.ro
    rw [z, nD] at this
    cases this
  have nbD : D ∉ bs := fun z => by
    have : ∀ {r : List Addr} {q : List (List Ins)} {G : Hp}, Bds K G H r q → D ∉ r := by
      intro r q G h
      induction h with
      | nil => exact List.not_mem_nil
      | cons e _ _ ih =>
        intro z
        rcases List.mem_cons.mp z with rfl | z
        · rw [nD] at e
          cases e
        · exact ih z
    exact this L.bd z
  refine ⟨?_, ?_, ?_, ?_, ?_, same_mut L1.sm (L.nw BO (by simp)), L.n, ?_, ?_⟩
  · rw [upd_same, List.reverse_cons, List.map_append]
    rfl
  · rw [upd_ne a1.symm]
    exact L1.ro
  · have hbd : Bds K (Opn (BO :: RO :: D :: bs)) (upd H D (.lst [])) bs (cur :: stk.map (·.1)) := ((L.bd.more nD).same s1).sub fun a h => by
      simp only [List.mem_cons] at h ⊢
      rcases h with h | h | h | h
      · exact .inr (.inl h)
      · exact .inr (.inr (.inl h))
      · exact .inl h
      · exact .inr (.inr (.inr h))
    refine .cons (by rw [upd_ne nBD.symm]; exact upd_same) .nil (hbd.put (by simp) L1.bo a2)
  · rw [List.nodup_cons, List.nodup_cons, List.nodup_cons, List.mem_cons, List.mem_cons, List.mem_cons]
    exact ⟨fun z => z.elim a1 fun z => z.elim nBD a2, fun z => z.elim nRD a3, nbD, a4⟩
  · intro a ha
    by_cases z : a = D
    · rw [z]
      exact L.sm.free nD
    · refine L.nw a ?_
      simp only [List.mem_cons] at ha ⊢
      rcases ha with h | h | h | h
      · exact .inl h
      · exact .inr (.inl h)
      · exact absurd h z
      · exact .inr (.inr h)
  · have := L.dp
    show stk.length + 1 + 0 ≤ 2
    exact this
  · intro q hq
    rcases List.mem_cons.mp hq with rfl | hq
    · exact Nat.zero_le _
    · exact L.sz q hq
end
theorem joinL_mem {S : List Nat} : ∀ {ps : List (List Nat)} {p : List Nat} {c : Nat}, p ∈ ps → c ∈ p → c ∈ joinL S ps
  | [], _, _, h, _ => absurd h List.not_mem_nil
  | [q], p, c, h, hc => by
    rw [List.mem_singleton.mp h] at hc
    exact hc
  | q :: q2 :: r, p, c, h, hc => by
    rw [joinL_cons (by simp)]
    rcases List.mem_cons.mp h with rfl | h
    · exact List.mem_append.mpr (.inl hc)
    · exact List.mem_append.mpr (.inr (List.mem_append.mpr (.inr (joinL_mem h hc))))
theorem jn_split (t : Str) : jn (Txt.split t " ") = t := by
  unfold jn
  rw [join_eq]
  exact PySem.StrLaws.join_split t " "
theorem low_split {t u : Str} (h : Low t) (hu : u ∈ Txt.split t " ") : Low u := fun c hc => by
  refine h c ?_
  rw [← jn_split t, tl_jn]
  exact joinL_mem (List.mem_map.mpr ⟨u, hu, rfl⟩) hc
end DR
/-! ### what parse_program says or raises, as the law writes it down -/
/-! ### a text with one token or one sign changed -/
namespace DR
open PySem PySem.Spec PyProof.Rows L2 TL
def sp__law_pickS : Sp := fun vs H Q _ => ∃ (p c : Addr) (z : Str) (n : Nat), vs = [.ref p, .str z] ∧ PenAt H p c n ∧ n < 2 ^ 40 ∧ 0 < z.length ∧ z.length ≤ 100000 ∧ ∀ i H', i ∈ tl z → Kp p H H' → PenAt H' p c (n + 1) → Q (.str ⟨#[i]⟩) H'
/-- how long tokens are, with a blank each -/
def smT (ts : List Str) : Nat := (ts.map fun t => t.length + 1).sum
theorem smT_app (a b : List Str) : smT (a ++ b) = smT a + smT b := by
  unfold smT
  rw [List.map_append, List.sum_append]
theorem smT_jn : ∀ ts : List Str, smT ts ≤ (jn ts).length + 1
  | [] => Nat.zero_le _
  | [t] => by
    rw [jn_one]
    unfold smT
    simp
  | t :: u :: r => by
    have ih := smT_jn (u :: r)
    have e : jn (t :: u :: r) = jn [t] ++ " " ++ jn (u :: r) := jn_two (a := [t]) (b := u :: r) (by simp) (by simp)
    have l : (jn (t :: u :: r)).length = t.length + 1 + (jn (u :: r)).length := by
      rw [e, jn_one, len_tl, tl_append, tl_append, List.length_append, List.length_append, tl_blank, ← len_tl, ← len_tl]
      rfl
    rw [l]
    have : smT (t :: u :: r) = t.length + 1 + smT (u :: r) := by
      unfold smT
      rw [List.map_cons, List.sum_cons]
    omega
theorem smT_tk (ts : List Str) (k : Nat) : smT (ts.take k) ≤ smT ts := by
  have := smT_app (ts.take k) (ts.drop k)
  rw [List.take_append_drop] at this
  omega
/-- some tokens are made of those of a text and of odd ones -/
def OfT (ts : List Str) (m : Nat) (us : List Str) : Prop := (∀ u ∈ us, u ∈ ts ∨ (Low u ∧ u.length ≤ 40)) ∧ smT us ≤ m
theorem OfT.tk {ts : List Str} (k : Nat) : OfT ts (smT ts) (ts.take k) := ⟨fun _ h => .inl (List.mem_of_mem_take h), smT_tk _ _⟩
theorem OfT.app {ts us vs : List Str} {m n : Nat} (a : OfT ts m us) (b : OfT ts n vs) : OfT ts (m + n) (us ++ vs) := ⟨fun u h => (List.mem_append.mp h).elim (a.1 u) (b.1 u), by rw [smT_app]; exact Nat.add_le_add a.2 b.2⟩
theorem OfT.up {ts us : List Str} {m n : Nat} (a : OfT ts m us) (h : m ≤ n) : OfT ts n us := ⟨a.1, Nat.le_trans a.2 h⟩
theorem OfT.text {t : Str} {us : List Str} (h : Low t) (a : OfT (Txt.split t " ") (2 * smT (Txt.split t " ") + 41) us) : Low (jn us) ∧ (jn us).length ≤ 2 * t.length + 50 := by
  refine ⟨low_jn fun u hu => (a.1 u hu).elim (low_split h) fun z => z.1, ?_⟩
  have h1 := jn_len us
  have h2 := smT_jn (Txt.split t " ")
  rw [jn_split] at h2
  have h3 := a.2
  unfold smT at h2 h3
  omega
/-! pieces of lists of texts -/
theorem len_app (a b : Str) : (a ++ b).length = a.length + b.length := by
  rw [len_tl, len_tl, len_tl, tl_append, List.length_append]
end DR
/-! ### what is read keeps the document's bounds -/
/-! ### values that are no texts -/
namespace DR
open PySem PySem.Spec PyProof.Rows L2 TL
section
variable {K : PySem.W.Frag} {H H' : Hp} {v : V} {d : PyData}
theorem DpE.ty (h : DpE K H v d) : TyX K H v (.type (tyName d)) := by
  cases h with
  | non => exact .base .non
  | bl b => exact .base (.bl b)
  | int i => exact .base (.int i)
  | str x => exact .base (.str x)
  | emp h => exact .base (.dK h)
  | lst hs _ =>
    rcases hs with (h | ⟨o, h⟩) | ⟨o, its, n, h, c, _⟩
    · exact .base (.lst h)
    · exact .base (.frz h)
    · exact .kList h c
  | tup hs _ =>
    rcases hs with (h | ⟨o, h⟩) | ⟨o, its, n, h, c, _⟩
    · exact .base (.tup h)
    · exact .fTuple h
    · exact .kTuple h c
end
end DR
/-! ### any data, by its size: what is bent grows little -/
namespace DR
open PySem PySem.Spec PyProof.Rows L2
/-! only empty dicts -/
section
variable {K : PySem.W.Frag} {H H' : Hp}
theorem DpEs.take : ∀ {xs : List V} {ds : List PyData} (k : Nat), DpEs K H xs ds → DpEs K H (xs.take k) (ds.take k)
  | _, _, 0, _ => .nil
  | _, _, k + 1, .nil => .nil
  | _, _, k + 1, .cons h t => .cons h (DpEs.take k t)
theorem DpEs.drop : ∀ {xs : List V} {ds : List PyData} (k : Nat), DpEs K H xs ds → DpEs K H (xs.drop k) (ds.drop k)
  | _, _, 0, h => h
  | _, _, k + 1, .nil => .nil
  | _ :: xs, _ :: ds, k + 1, .cons h t => by
    have := DpEs.drop (xs := xs) (ds := ds) k t
    exact this
end
end DR
/-! ### a text set against any data; truth values taken for numbers -/
namespace PySem.SeqAt
open _root_.PySem.Sem (wp)
end PySem.SeqAt
/-! ### is_program of any data -/
namespace DR
open PySem PySem.Spec PyProof.Rows L2
def okS (t : Nat × Nat) : Bool := decide (t.1 ≤ 100) && decide (t.2 ≤ 5)
/-! ### told of by isinstance -/
def isLst : PyData → Bool
  | .list _ => true
  | _ => false
theorem kit_list (K : PySem.W.Frag) (d : PyData) : PySem.W.kitOne K (.type (tyName d)) (.type "list") = some (isLst d) := by
  cases d with
  | none => exact kit_ty (show kitB "NoneType" "list" = some false by decide +kernel)
  | bool b => exact kit_ty (show kitB "bool" "list" = some false by decide +kernel)
  | int i => exact kit_ty (show kitB "int" "list" = some false by decide +kernel)
  | str x => exact kit_ty (show kitB "str" "list" = some false by decide +kernel)
  | list xs => exact kit_ty (show kitB "list" "list" = some true by decide +kernel)
  | tuple xs => exact kit_ty (show kitB "tuple" "list" = some false by decide +kernel)
  | dict kvs => exact kit_ty (show kitB "dict" "list" = some false by decide +kernel)
/-! ### promises -/
end DR
/-! ### roads -/
namespace DR
open PySem PySem.Spec PyProof.Rows L2
/-! a heap without what may change -/
open Classical in
noncomputable def erM (M : Addr → Prop) (H : Hp) : Hp := fun b => if M b then none else H b
theorem erM_at {M : Addr → Prop} {H : Hp} {b : Addr} {o : HO} (h : erM M H b = some o) : ¬ M b ∧ H b = some o := by
  unfold erM at h
  by_cases z : M b
  · rw [if_pos z] at h
    cases h
  · rw [if_neg z] at h
    exact ⟨z, h⟩
theorem erM_of {M : Addr → Prop} {H : Hp} {b : Addr} {o : HO} (n : ¬ M b) (h : H b = some o) : erM M H b = some o := by
  unfold erM
  rw [if_neg n]
  exact h
theorem erM_le {M : Addr → Prop} {H : Hp} : Same (erM M H) H := fun b o e => (erM_at e).2
/-- all but what may change stays -/
def Kst (M : Addr → Prop) (H H' : Hp) : Prop := ∀ b o, ¬ M b → H b = some o → H' b = some o
theorem Kst.refl (M : Addr → Prop) (H : Hp) : Kst M H H := fun _ _ _ e => e
theorem Kst.trans {M : Addr → Prop} {H H1 H2 : Hp} (a : Kst M H H1) (b : Kst M H1 H2) : Kst M H H2 := fun c o n e => b c o n (a c o n e)
theorem Same.ks {M : Addr → Prop} {H H' : Hp} (s : Same H H') : Kst M H H' := fun b o _ e => s b o e
theorem Kp.ks {M : Addr → Prop} {p : Addr} {H H' : Hp} (k : Kp p H H') (hp : M p) : Kst M H H' := fun b o n e => k b o (fun z => n (z ▸ hp)) e
theorem Kst.upd {M : Addr → Prop} {H H' : Hp} {p : Addr} {o : HO} (k : Kst M H H') (hp : M p) : Kst M H (upd H' p o) := fun b u n e => by
  have nb : b ≠ p := fun z => n (by rw [z]; exact hp)
  rw [upd_ne nb]
  exact k b u n e
theorem Kst.sub {M N : Addr → Prop} {H H' : Hp} (k : Kst M H H') (h : ∀ b, M b → N b) : Kst N H H' := fun b o n e => k b o (fun z => n (h b z)) e
theorem Kst.er {M : Addr → Prop} {H H' : Hp} (k : Kst M H H') : Same (erM M H) (erM M H') := fun b o e => by
  obtain ⟨n, e⟩ := erM_at e
  exact erM_of n (k b o n e)
/-- what may change: lists, and a pen -/
structure MOk (M : Addr → Prop) (p : Addr) (H : Hp) : Prop where
  pen : M p
  lists : ∀ b, M b → b = p ∨ ∃ xs, H b = some (.lst xs)
  dict : ∃ kvs, H p = some (.dK kvs)
theorem MOk.there {M : Addr → Prop} {p b : Addr} {H : Hp} (m : MOk M p H) (h : M b) : H b ≠ none := fun z => by
  rcases m.lists b h with e | ⟨xs, e⟩
  · obtain ⟨kvs, k⟩ := m.dict
    rw [← e, z] at k
    cases k
  · rw [z] at e
    cases e
theorem MOk.notup {M : Addr → Prop} {p b : Addr} {H : Hp} {xs : List V} (m : MOk M p H) (h : H b = some (.tup xs)) : ¬ M b := fun z => by
  rcases m.lists b z with e | ⟨ys, e⟩
  · obtain ⟨kvs, k⟩ := m.dict
    rw [← e, h] at k
    cases k
  · rw [h] at e
    cases e
theorem MOk.tp {M : Addr → Prop} {p : Addr} {H H' : Hp} (m : MOk M p H) (k : Kst M H H') : Tp H H' := by
  refine ⟨fun b xs e => k _ _ (m.notup e) e, fun b o u e => k _ _ (fun z => ?_) e⟩
  rcases m.lists b z with q | ⟨ys, q⟩
  · obtain ⟨kvs, y⟩ := m.dict
    rw [← q, e] at y
    cases y
  · rw [e] at q
    cases q
theorem MOk.tup {M : Addr → Prop} {p a : Addr} {H : Hp} {K : PySem.W.Frag} {xs : List V} (m : MOk M p H) (h : SqT K H a xs) : SqT K (erM M H) a xs := by
  rcases h with (h | ⟨o, h⟩) | h
  · exact .inl (.inl (erM_of (m.notup h) h))
  · refine .inl (.inr ⟨o, erM_of (fun z => ?_) h⟩)
    rcases m.lists a z with q | ⟨ys, q⟩
    · obtain ⟨kvs, y⟩ := m.dict
      rw [← q, h] at y
      cases y
    · rw [h] at q
      cases q
  · exact .inr h
theorem MOk.same {M : Addr → Prop} {p : Addr} {H H' : Hp} (m : MOk M p H) (s : Same H H') : MOk M p H' := ⟨m.pen, fun b h => (m.lists b h).imp id fun z => z.elim fun xs e => ⟨xs, s _ _ e⟩, m.dict.elim fun _ e => ⟨_, s _ _ e⟩⟩
/-- data that a call made anew stands outside -/
theorem MOk.data {M : Addr → Prop} {p : Addr} {kvs : List (Key × V)} {H H' : Hp} {K : PySem.W.Frag} {v : V} {d : PyData} (m : MOk M p H) (hp : H' p = some (.dK kvs)) (h : Dp K (er H H') v d) : Dp K (erM M H') v d := by
  have e : er H H' p = some (.dK kvs) := er_of hp fun xs z => by
    obtain ⟨k, y⟩ := m.dict
    rw [y] at z
    cases z
  refine Dp.kpd e (fun b o n z => ?_) h
  obtain ⟨z1, z2⟩ := er_at z
  refine erM_of (fun y => ?_) z1
  rcases m.lists b y with q | ⟨xs, q⟩
  · exact n q
  · exact z2 xs q
/-- tuples of before stand in what is new, too -/
theorem er_oldS {H H2 : Hp} {D : Addr} (s : Same H H2) (nD : H D = none) : Tp H (er1 D (er H H2)) := by
  refine ⟨fun b xs e => er1_of (ne_of_none e nD) (er_of (s _ _ e) fun ys z => by rw [e] at z; cases z), fun b o u e => er1_of (ne_of_none e nD) (er_of (s _ _ e) fun ys z => by rw [e] at z; cases z)⟩
theorem IsI.rep_inv {d : PyData} {n : Int} {b : List Ins} (h : IsI d (.rep n b)) : ∃ d2, d = .tuple [.str "repeat", .int n, d2] ∧ IsP d2 b := by
  cases h with
  | rep n hp => exact ⟨_, rfl, hp⟩
theorem Dp.three {K : PySem.W.Frag} {H : Hp} {v : V} {s : Str} {n : Int} {d2 : PyData} (h : Dp K H v (.tuple [.str s, .int n, d2])) : ∃ a y, v = .ref a ∧ SqT K H a [.str s, .int n, y] ∧ Dp K H y d2 := by
  obtain ⟨a, xs, rfl, hs, hall⟩ := Dp.tup_inv h
  cases hall with
  | cons h1 t =>
    cases t with
    | cons h2 t2 =>
      cases t2 with
      | cons h3 t3 =>
        cases t3
        cases h1
        cases h2
        exact ⟨a, _, rfl, hs, h3⟩
/-- a program, copied: the same data, in lists that are new -/
def sp_copied (K : PySem.W.Frag) (k : Nat) : Sp := fun vs H Q _ => ∃ (v : V) (d : PyData) (b : List Ins), vs = [v] ∧ Dp K H v d ∧ IsP d b ∧ dpP b < k ∧ k ≤ 3 ∧ cnP b ≤ 1000 ∧ ∀ v' H', Same H H' → Dp K (er H H') v' d → Q v' H'
/-! ### names and places -/
def gS : List (Str × Int) → Str → Option Int
  | [], _ => none
  | t :: r, n => if t.1 = n then some t.2 else gS r n
def pS : List (Str × Int) → Str → Int → List (Str × Int)
  | [], n, v => [(n, v)]
  | t :: r, n, v => if t.1 = n then (n, v) :: r else t :: pS r n v
/-- as a dict -/
def stK (m : List (Str × Int)) : List (Key × V) := m.map fun t => (Sum.inr t.1, V.int t.2)
theorem stK_len (m : List (Str × Int)) : (stK m).length = m.length := by
  unfold stK
  rw [List.length_map]
theorem stK_val : ∀ (m : List (Str × Int)) (n : Str), valV (stK m) (Sum.inr n) = (gS m n).map V.int
  | [], n => valV_nil
  | t :: r, n => by
    show valV ((Sum.inr t.1, V.int t.2) :: stK r) (Sum.inr n) = _
    unfold gS
    by_cases q : t.1 = n
    · rw [if_pos q, valV_pos (by rw [q])]
      rfl
    · rw [if_neg q, valV_neg (fun z => q (Sum.inr.inj z)), stK_val r n]
theorem gS_mem : ∀ {m : List (Str × Int)} {n : Str} {z : Int}, gS m n = some z → (n, z) ∈ m
  | t :: r, n, z, h => by
    unfold gS at h
    by_cases q : t.1 = n
    · rw [if_pos q] at h
      cases h
      rw [← q]
      exact List.mem_cons_self
    · rw [if_neg q] at h
      exact List.mem_cons_of_mem _ (gS_mem h)
theorem gS_none : ∀ {m : List (Str × Int)} {n : Str}, gS m n = none ↔ n ∉ m.map (·.1)
  | [], n => ⟨fun _ h => absurd h List.not_mem_nil, fun _ => rfl⟩
  | t :: r, n => by
    unfold gS
    rw [List.map_cons, List.mem_cons]
    by_cases q : t.1 = n
    · rw [if_pos q]
      exact ⟨fun z => (by cases z), fun z => absurd (Or.inl q.symm) z⟩
    · rw [if_neg q, gS_none (m := r)]
      exact ⟨fun z y => y.elim (fun e => q e.symm) z, fun z y => z (Or.inr y)⟩
theorem gS_put : ∀ (m : List (Str × Int)) (n k : Str) (v : Int), gS (pS m n v) k = if n = k then some v else gS m k
  | [], n, k, v => rfl
  | t :: r, n, k, v => by
    unfold pS
    by_cases q : t.1 = n
    · rw [if_pos q]
      show (if n = k then some v else gS r k) = if n = k then some v else if t.1 = k then some t.2 else gS r k
      by_cases z : n = k
      · rw [if_pos z, if_pos z]
      · rw [if_neg z, if_neg z, if_neg (by rw [q]; exact z)]
    · rw [if_neg q]
      show (if t.1 = k then some t.2 else gS (pS r n v) k) = if n = k then some v else if t.1 = k then some t.2 else gS r k
      rw [gS_put r n k v]
      by_cases z : n = k
      · rw [if_pos z, if_neg (fun y => q (y.trans z.symm)), if_pos z]
      · rw [if_neg z, if_neg z]
theorem pS_keys : ∀ (m : List (Str × Int)) (n : Str) (v : Int), (pS m n v).map (·.1) = if n ∈ m.map (·.1) then m.map (·.1) else m.map (·.1) ++ [n]
  | [], n, v => rfl
  | t :: r, n, v => by
    have ih := pS_keys r n v
    unfold pS
    by_cases q : t.1 = n
    · rw [if_pos q, List.map_cons, List.map_cons, q, if_pos List.mem_cons_self]
    · rw [if_neg q, List.map_cons, List.map_cons, ih]
      by_cases z : n ∈ r.map (·.1)
      · rw [if_pos z, if_pos (List.mem_cons_of_mem _ z)]
      · rw [if_neg z, if_neg (fun y => (List.mem_cons.mp y).elim (fun e => q e.symm) z)]
        rfl
theorem pS_nodup {m : List (Str × Int)} {n : Str} {v : Int} (h : (m.map (·.1)).Nodup) : ((pS m n v).map (·.1)).Nodup := by
  rw [pS_keys]
  by_cases z : n ∈ m.map (·.1)
  · rw [if_pos z]
    exact h
  · rw [if_neg z]
    refine List.nodup_append.mpr ⟨h, List.nodup_cons.mpr ⟨List.not_mem_nil, List.nodup_nil⟩, fun a ha b hb => ?_⟩
    rw [List.mem_singleton.mp hb]
    exact fun e => z (e ▸ ha)
theorem pS_mem : ∀ {m : List (Str × Int)} {n : Str} {v : Int} {t : Str × Int}, t ∈ pS m n v → t = (n, v) ∨ t ∈ m
  | [], n, v, t, h => .inl (List.mem_singleton.mp h)
  | u :: r, n, v, t, h => by
    unfold pS at h
    by_cases q : u.1 = n
    · rw [if_pos q] at h
      exact (List.mem_cons.mp h).imp id (List.mem_cons_of_mem _)
    · rw [if_neg q] at h
      rcases List.mem_cons.mp h with e | h
      · exact .inr (by rw [e]; exact List.mem_cons_self)
      · exact (pS_mem h).imp id (List.mem_cons_of_mem _)
theorem pS_new {n : Str} {v : Int} : ∀ {m : List (Str × Int)}, gS m n = none → pS m n v = m ++ [(n, v)]
  | [], _ => rfl
  | t :: r, z => by
    unfold gS at z
    by_cases q : t.1 = n
    · rw [if_pos q] at z
      cases z
    · rw [if_neg q] at z
      unfold pS
      rw [if_neg q, pS_new z]
      rfl
theorem stK_put : ∀ {m : List (Str × Int)} {n : Str} {v : Int}, (m.map (·.1)).Nodup → putK (stK m) (Sum.inr n : Key) (.int v) = stK (pS m n v) := by
  intro m n v h
  cases e : gS m n with
  | none =>
    rw [putK_new _ (by rw [stK_val, e]; rfl)]
    rw [pS_new e]
    unfold stK
    rw [List.map_append]
    rfl
  | some z =>
    unfold putK
    rw [valV_any, stK_val, e, if_pos (by rfl)]
    have mem : n ∈ m.map (·.1) := List.mem_map.mpr ⟨_, gS_mem e, rfl⟩
    clear e
    induction m with
    | nil => exact absurd mem List.not_mem_nil
    | cons t r ih =>
      obtain ⟨h1, h2⟩ := List.nodup_cons.mp (show (t.1 :: r.map (·.1)).Nodup from h)
      unfold pS
      show (if (Sum.inr t.1 : Key) = Sum.inr n then _ else _) :: (stK r).map _ = _
      by_cases q : t.1 = n
      · rw [if_pos (by rw [q]), if_pos q]
        have rest : (stK r).map (fun p => if p.1 = (Sum.inr n : Key) then (p.1, V.int v) else p) = stK r := by
          refine (List.map_congr_left fun p hp => ?_).trans (List.map_id _)
          obtain ⟨u, hu, rfl⟩ := List.mem_map.mp hp
          rw [if_neg fun y => h1 (by rw [q, ← Sum.inr.inj y]; exact List.mem_map_of_mem hu)]
          rfl
        rw [rest]
        show (Sum.inr t.1, V.int v) :: stK r = _
        rw [q]
        rfl
      · rw [if_neg (fun z => q (Sum.inr.inj z)), if_neg q, ih h2 ((List.mem_cons.mp mem).resolve_left fun e => q e.symm)]
        rfl
/-! ### actions, and what they leave -/
inductive Act where
  | enter (n : Str) (pl : Int)
  | run (n : Str) (d : PyData) (b : List Ins)
def namesOf (as : List Act) : List Str := as.filterMap fun
  | .enter n _ => some n
  | .run _ _ _ => none
def stStep (m : List (Str × Int)) : Act → List (Str × Int)
  | .enter n pl => pS m n pl
  | .run n _ b => pS m n ((gS m n).getD 0 + shP b)
def stO (as : List Act) : List (Str × Int) := as.foldl stStep []
theorem stO_snoc {as : List Act} {j : Nat} {a : Act} (h : as[j]? = some a) : stO (as.take (j + 1)) = stStep (stO (as.take j)) a := by
  unfold stO
  rw [take_snoc h, List.foldl_append]
  rfl
/-- a program that may be run -/
structure ProgOk (b : List Ins) : Prop where
  dp : dpP b < 3
  cp : CP (10 ^ 30) b
  np : NP b
  rp : RP (10 ^ 30) b
  cn : cnP b ≤ 100
  sd : (sdP b).length ≤ 5
  w : WP b
def StepOk (m : List (Str × Int)) : Act → Prop
  | .enter n pl => gS m n = none ∧ pl.natAbs ≤ 10 ^ 30
  | .run n d b => (∃ z, gS m n = some z) ∧ ProgOk b ∧ IsP d b
/-- a history that may stand -/
def Lgl (as : List Act) : Prop := ∀ j a, as[j]? = some a → StepOk (stO (as.take j)) a
theorem Lgl.nil : Lgl [] := fun j a h => by cases h
theorem Lgl.snoc {as : List Act} {a : Act} (h : Lgl as) (ok : StepOk (stO as) a) : Lgl (as ++ [a]) := fun j x e => by
  by_cases lt : j < as.length
  · rw [List.getElem?_append_left lt] at e
    rw [List.take_append_of_le_length (by omega)]
    exact h j x e
  · have e2 : j = as.length := by
      have := (List.getElem?_eq_some_iff.mp e).1
      rw [List.length_append] at this
      show j = as.length
      have l1 : [a].length = 1 := rfl
      omega
    subst e2
    rw [List.getElem?_append_right (Nat.le_refl _), Nat.sub_self] at e
    cases e
    rw [List.take_append_of_le_length (Nat.le_refl _), List.take_length]
    exact ok
theorem Lgl.take {as : List Act} (h : Lgl as) (k : Nat) : Lgl (as.take k) := fun j x e => by
  rw [List.getElem?_take] at e
  split at e
  · next lt =>
    have := h j x e
    rwa [List.take_take, Nat.min_eq_left (by omega)]
  · cases e
/-- the names, once each -/
theorem Lgl.names : ∀ {as : List Act}, Lgl as → (stO as).map (·.1) = namesOf as ∧ ((stO as).map (·.1)).Nodup := by
  intro as h
  have go : ∀ j, j ≤ as.length → (stO (as.take j)).map (·.1) = namesOf (as.take j) ∧ ((stO (as.take j)).map (·.1)).Nodup := fun j => by
    induction j with
    | zero => exact fun _ => ⟨rfl, List.nodup_nil⟩
    | succ j ih =>
      intro hj
      obtain ⟨e1, e2⟩ := ih (by omega)
      have at_ : as[j]? = some as[j] := List.getElem?_eq_getElem (by omega)
      have ok := h j _ at_
      rw [stO_snoc at_, take_snoc at_]
      generalize as[j] = a at ok
      generalize stO (as.take j) = m at e1 e2 ok
      cases a with
      | enter n pl =>
        have no := gS_none.mp ok.1
        refine ⟨?_, pS_nodup e2⟩
        show (pS m n pl).map _ = _
        rw [pS_keys, if_neg no, e1]
        unfold namesOf
        rw [List.filterMap_append]
        rfl
      | run n d b =>
        obtain ⟨⟨z, hz⟩, _⟩ := ok
        have yes : n ∈ m.map (·.1) := List.mem_map.mpr ⟨_, gS_mem hz, rfl⟩
        refine ⟨?_, pS_nodup e2⟩
        show (pS m n _).map _ = _
        rw [pS_keys, if_pos yes, e1]
        unfold namesOf
        rw [List.filterMap_append]
        exact (List.append_nil _).symm
  have := go as.length (Nat.le_refl _)
  rwa [List.take_length] at this
/-! how far all that goes -/
mutual
theorem trI_cn {R : Nat} (hR : 1 ≤ R) : ∀ (k : Nat) (i : Ins), dpI i ≤ k → CI R i → NI i → RI R i → trI i ≤ ((cnI i * R ^ (k + 1) : Nat) : Int)
  | k, .step c, _, h, _, _ => by
    rw [CI] at h
    rw [trI, cnI, Nat.one_mul]
    have : R ≤ R ^ (k + 1) := Nat.le_self_pow (by omega) R
    omega
  | k, .turn c, _, _, _, _ => by
    rw [trI]
    omega
  | 0, .rep n b, d, _, _, _ => by
    rw [dpI] at d
    omega
  | k + 1, .rep n b, d, h, hn, hr => by
    rw [dpI] at d
    rw [CI] at h
    rw [NI] at hn
    rw [RI] at hr
    have ih := trP_cn hR k b (by omega) h hn.2 hr.2
    rw [trI, cnI]
    have a : ((n.natAbs : Nat) : Int) ≤ (R : Int) := by omega
    have s1 : ((n.natAbs : Nat) : Int) * trP b ≤ (R : Int) * ((cnP b * R ^ (k + 1) : Nat) : Int) := by
      refine Int.le_trans (Int.mul_le_mul_of_nonneg_left ih (by omega)) (Int.mul_le_mul_of_nonneg_right a (by omega))
    refine Int.le_trans s1 ?_
    rw [← Int.natCast_mul]
    refine Int.ofNat_le.mpr ?_
    have e : R * (cnP b * R ^ (k + 1)) = cnP b * R ^ (k + 1 + 1) := by
      rw [Nat.pow_succ R (k + 1), Nat.mul_comm R, Nat.mul_assoc]
    rw [e]
    exact Nat.mul_le_mul_right _ (Nat.le_succ _)
theorem trP_cn {R : Nat} (hR : 1 ≤ R) : ∀ (k : Nat) (b : List Ins), dpP b ≤ k → CP R b → NP b → RP R b → trP b ≤ ((cnP b * R ^ (k + 1) : Nat) : Int)
  | k, [], _, _, _, _ => by
    rw [trP_nil]
    omega
  | k, i :: r, d, h, hn, hr => by
    rw [dpP_cons] at d
    rw [CP_cons] at h
    rw [NP] at hn
    rw [RP_cons] at hr
    have a := trI_cn hR k i (by omega) h.1 hn.1 hr.1
    have b := trP_cn hR k r (by omega) h.2 hn.2 hr.2
    rw [trP_cons, cnP_cons, Nat.add_mul]
    omega
end
theorem ProgOk.tr {b : List Ins} (h : ProgOk b) : trP b ≤ 2 ^ 306 := by
  have a := trP_cn (R := 10 ^ 30) (by decide) 2 b (by have := h.dp; omega) h.cp h.np h.rp
  refine Int.le_trans a ?_
  have c : (2 : Int) ^ 306 = ((2 ^ 306 : Nat) : Int) := by decide +kernel
  rw [c]
  refine Int.ofNat_le.mpr (Nat.le_trans (Nat.mul_le_mul_right _ h.cn) (by decide +kernel))
theorem Lgl.farB {B R : Nat} (hB : ∀ b, ProgOk b → trP b ≤ B) (hR : 10 ^ 30 = R) {as : List Act} (h : Lgl as) : ∀ j, j ≤ as.length → ∀ t ∈ stO (as.take j), t.2.natAbs ≤ R + j * B := fun j => by
  induction j with
  | zero => exact fun _ t ht => absurd ht List.not_mem_nil
  | succ j ih =>
    intro hj t ht
    have ih := ih (by omega)
    have at_ : as[j]? = some as[j] := List.getElem?_eq_getElem (by omega)
    have ok := h j _ at_
    rw [stO_snoc at_] at ht
    generalize as[j] = a at ok ht
    generalize stO (as.take j) = m at ih ok ht
    have more : (j + 1) * B = j * B + B := Nat.succ_mul _ _
    generalize j * B = jB at more ih
    rw [more]
    have old : ∀ t ∈ m, t.2.natAbs ≤ R + (jB + B) := fun t ht => by
      have := ih t ht
      omega
    cases a with
    | enter n pl =>
      rcases pS_mem ht with e | e
      · rw [e]
        have := ok.2
        rw [hR] at this
        show pl.natAbs ≤ _
        omega
      · exact old t e
    | run n d b =>
      obtain ⟨⟨z, hz⟩, po, _⟩ := ok
      rcases pS_mem ht with e | e
      · rw [e]
        have h1 : z.natAbs ≤ R + jB := ih _ (gS_mem hz)
        have h2 := shP_tr b
        have h3 := hB b po
        show ((gS m n).getD 0 + shP b).natAbs ≤ _
        rw [hz]
        show (z + shP b).natAbs ≤ _
        omega
      · exact old t e
theorem Lgl.far {as : List Act} (h : Lgl as) {j : Nat} (hj : j ≤ as.length) (h9 : as.length ≤ 1000) : ∀ t ∈ stO (as.take j), t.2.natAbs ≤ 2 ^ 318 := fun t ht => by
  have a := h.farB (B := 2 ^ 306) (R := 10 ^ 30) (fun b po => by
    have c : (2 : Int) ^ 306 = ((2 ^ 306 : Nat) : Int) := by decide +kernel
    rw [← c]
    exact po.tr) rfl j hj t ht
  refine Nat.le_trans a ?_
  have m : j * 2 ^ 306 ≤ 1000 * 2 ^ 306 := Nat.mul_le_mul_right _ (by omega)
  refine Nat.le_trans (Nat.add_le_add_left m _) (by decide +kernel)
/-! what the dials show -/
def dlC (i : Nat) (as : List Act) (j : Nat) (x : Int) : Int := match as[j]? with
  | some (.run n _ b) => if i ≤ j then seP b (x - (gS (stO (as.take j)) n).getD 0) else 0
  | _ => 0
def dlT (i : Nat) (as : List Act) : Nat → Int → Int
  | 0, _ => 0
  | j + 1, x => dlT i as j x + dlC i as j x
/-- how many terms that makes at most -/
def cnC (i : Nat) (as : List Act) (j : Nat) : Nat := match as[j]? with
  | some (.run _ _ b) => if i ≤ j then cnP b else 0
  | _ => 0
def cnT (i : Nat) (as : List Act) : Nat → Nat
  | 0 => 0
  | j + 1 => cnT i as j + cnC i as j
theorem cnT_few {as : List Act} (h : Lgl as) (i : Nat) : ∀ k, cnT i as k ≤ 100 * k
  | 0 => Nat.le_refl _
  | k + 1 => by
    have ih := cnT_few h i k
    have c : cnC i as k ≤ 100 := by
      unfold cnC
      split
      · next n d b e =>
        have := (h k _ e).2.1.cn
        split
        · exact this
        · exact Nat.zero_le _
      · exact Nat.zero_le _
    show cnT i as k + cnC i as k ≤ _
    omega
/-! ### a road in the heap -/
def ActV (K : PySem.W.Frag) (G : Hp) (v : V) : Act → Prop
  | .enter n pl => ∃ t, v = .ref t ∧ SqT K G t [.str "enter", .str n, .int pl]
  | .run n d b => ∃ t u, v = .ref t ∧ SqT K G t [.str "run", .str n, u] ∧ Dp K G u d ∧ IsP d b
abbrev ActVs (K : PySem.W.Frag) (G : Hp) : List V → List Act → Prop := Paired (ActV K G)
theorem ActV.same {K : PySem.W.Frag} {G G' : Hp} {v : V} {a : Act} (s : Same G G') (h : ActV K G v a) : ActV K G' v a := by
  cases a with
  | enter n pl =>
    obtain ⟨t, e, z⟩ := h
    exact ⟨t, e, same_t s z⟩
  | run n d b =>
    obtain ⟨t, u, e, z, hd, hp⟩ := h
    exact ⟨t, u, e, same_t s z, Dp.same s hd, hp⟩
theorem ActVs.same {K : PySem.W.Frag} {G G' : Hp} (s : Same G G') : ∀ {xs : List V} {as : List Act}, ActVs K G xs as → ActVs K G' xs as
  | _, _, .nil => .nil
  | _, _, .cons r q => .cons (r.same s) (ActVs.same s q)
theorem ActVs.get {K : PySem.W.Frag} {G : Hp} : ∀ {xs : List V} {as : List Act} {j : Nat} {x : V}, ActVs K G xs as → xs[j]? = some x → ∃ a, as[j]? = some a ∧ ActV K G x a
  | _, _, _, _, .nil, e => nomatch e
  | _, _, 0, _, .cons r _, e => by
    cases e
    exact ⟨_, rfl, r⟩
  | _, _, j + 1, _, .cons _ q, e => ActVs.get (j := j) q e
theorem ActVs.len {K : PySem.W.Frag} {G : Hp} {xs : List V} {as : List Act} (h : ActVs K G xs as) : xs.length = as.length := Paired.length h
def roF (q : Int) (D T : Addr) : List (Str × V) := [("prime", .int q), ("done", .ref D), ("taken_back", .ref T)]
theorem nmRo : (("done" : Str) == "prime") = false ∧ (("taken_back" : Str) == "prime") = false ∧ (("taken_back" : Str) == "done") = false := by decide +kernel
theorem nmRo2 : ¬ ("prime" : Str) = "done" ∧ ¬ ("prime" : Str) = "taken_back" ∧ ¬ ("done" : Str) = "taken_back" := by decide +kernel
section
variable (q : Int) (D T : Addr)
theorem ro_prime : (roF q D T).lookup ("prime" : Str) = some (.int q) := by
  unfold roF
  simp [List.lookup]
theorem ro_done : (roF q D T).lookup ("done" : Str) = some (.ref D) := by
  unfold roF
  simp only [List.lookup, nmRo.1]
  simp
theorem ro_taken : (roF q D T).lookup ("taken_back" : Str) = some (.ref T) := by
  unfold roF
  simp only [List.lookup, nmRo.2.1, nmRo.2.2]
  simp
theorem ro_no {m : Str} (h : (m == ("prime" : Str)) = false ∧ (m == ("done" : Str)) = false ∧ (m == ("taken_back" : Str)) = false) : (roF q D T).lookup m = none := by
  unfold roF
  simp only [List.lookup, h.1, h.2.1, h.2.2]
end
structure RoadAt (K : PySem.W.Frag) (C : Addr) (M : Addr → Prop) (H : Hp) (r D T : Addr) (q : Int) (as bs : List Act) : Prop where
  ob : ∃ dx, H r = some (.ins C dx (roF q D T))
  dn : ∃ xs, H D = some (.lst xs) ∧ ActVs K (erM M H) xs as
  tb : ∃ xs, H T = some (.lst xs) ∧ ActVs K (erM M H) xs bs
  mD : M D
  mT : M T
  nr : ¬ M r
  ne : D ≠ T
  fewA : as.length ≤ 1000
  fewB : bs.length ≤ 1000
  lg : Lgl as
/-- all stays but what may change; and its own lists stay -/
theorem RoadAt.keep {K : PySem.W.Frag} {C r D T : Addr} {M : Addr → Prop} {H H' : Hp} {q : Int} {as bs : List Act} (R : RoadAt K C M H r D T q as bs) (k : Kst M H H') (hD : H' D = H D) (hT : H' T = H T) : RoadAt K C M H' r D T q as bs := by
  obtain ⟨dx, e⟩ := R.ob
  obtain ⟨xs, e1, a1⟩ := R.dn
  obtain ⟨ys, e2, a2⟩ := R.tb
  exact ⟨⟨dx, k _ _ R.nr e⟩, ⟨xs, hD.trans e1, a1.same k.er⟩, ⟨ys, hT.trans e2, a2.same k.er⟩, R.mD, R.mT, R.nr, R.ne, R.fewA, R.fewB, R.lg⟩
theorem RoadAt.same {K : PySem.W.Frag} {C r D T : Addr} {M : Addr → Prop} {H H' : Hp} {q : Int} {as bs : List Act} (R : RoadAt K C M H r D T q as bs) (s : Same H H') : RoadAt K C M H' r D T q as bs := by
  obtain ⟨xs, e1, _⟩ := R.dn
  obtain ⟨ys, e2, _⟩ := R.tb
  exact R.keep (Same.ks s) (by rw [e1, s _ _ e1]) (by rw [e2, s _ _ e2])
theorem RoadAt.kp {K : PySem.W.Frag} {C r D T p : Addr} {M : Addr → Prop} {H H' : Hp} {q : Int} {as bs : List Act} (R : RoadAt K C M H r D T q as bs) (m : MOk M p H) (k : Kp p H H') : RoadAt K C M H' r D T q as bs := by
  obtain ⟨xs, e1, _⟩ := R.dn
  obtain ⟨ys, e2, _⟩ := R.tb
  obtain ⟨kvs, hp⟩ := m.dict
  exact R.keep (k.ks m.pen) (by rw [e1, k _ _ (ne_of e1 hp (by intro z; cases z)) e1]) (by rw [e2, k _ _ (ne_of e2 hp (by intro z; cases z)) e2])
/-- a road's own two lists -/
def Own2 (D T : Addr) : Addr → Prop := fun b => b = D ∨ b = T
theorem MOk.own {M : Addr → Prop} {p D T : Addr} {H H' : Hp} {xs ys : List V} (m : MOk M p H) (k : Kst (Own2 D T) H H') (hD : H D = some (.lst xs)) (hT : H T = some (.lst ys)) (eD : ∃ us, H' D = some (.lst us)) (eT : ∃ us, H' T = some (.lst us)) : MOk M p H' := by
  obtain ⟨kvs, hp⟩ := m.dict
  have n1 := ne_of hp hD (by intro z; cases z)
  have n2 := ne_of hp hT (by intro z; cases z)
  refine ⟨m.pen, fun b h => ?_, kvs, k _ _ (fun z => z.elim n1 n2) hp⟩
  rcases m.lists b h with e | ⟨us, e⟩
  · exact .inl e
  · by_cases z : Own2 D T b
    · rcases z with z | z
      · rw [z]
        exact .inr eD
      · rw [z]
        exact .inr eT
    · exact .inr ⟨us, k _ _ z e⟩
/-! what the classes say -/
structure ClRo (K : PySem.W.Frag) (mg : Str → Option Value) (C : Addr) : Prop where
  cl : Cls K C
  np : NoAttr K C "prime"
  nd : NoAttr K C "done"
  nt : NoAttr K C "taken_back"
  gl : mg "Road" = some (.ref C)
/-! ### names -/
def nameOk (n : Str) : Bool := decide (1 ≤ n.length ∧ n.length ≤ 8) && decide (∀ c ∈ n.cps.toList, 97 ≤ c ∧ c ≤ 122)
theorem inV_strs (n : Str) : ∀ ns : List Str, inV (V.str n) (ns.map V.str) = decide (n ∈ ns)
  | [] => rfl
  | m :: r => by
    have q : eqV (V.str m) (V.str n) = decide (m = n) := by
      show (m == n) = _
      rw [Bool.eq_iff_iff, beq_iff_eq, decide_eq_true_iff]
    have ih := inV_strs n r
    unfold inV at ih ⊢
    rw [List.map_cons, List.any_cons, ih, q, Bool.eq_iff_iff]
    simp only [Bool.or_eq_true, decide_eq_true_eq, List.mem_cons]
    exact ⟨fun z => z.imp Eq.symm id, fun z => z.imp Eq.symm id⟩
theorem flat_strs (ns : List Str) : (ns.map V.str).all flatV = true := by
  rw [List.all_eq_true]
  intro x hx
  obtain ⟨m, _, rfl⟩ := List.mem_map.mp hx
  rfl
/-! ### what the methods promise where nothing is refused -/
def sp_is_name : Sp := fun vs H Q _ => ∃ n : Str, vs = [.str n] ∧ n.length ≤ 100000 ∧ ∀ H', Same H H' → Q (.bl (nameOk n)) H'
def sp_road (C : Addr) : Sp := fun vs H Q _ => ∃ (r dx : Addr) (q : Int), vs = [.ref r, .int q] ∧ H r = some (.ins C dx []) ∧
  ∀ D T H', Kp r H H' → H D = none → H T = none → D ≠ T → H' r = some (.ins C dx (roF q D T)) → H' D = some (.lst []) → H' T = some (.lst []) → Q .non H'
def sp_perform (K : PySem.W.Frag) (C : Addr) : Sp := fun vs H Q _ => ∃ (r D T dx t : Addr) (q : Int) (xs ys : List V), vs = [.ref r, .ref t] ∧ H r = some (.ins C dx (roF q D T)) ∧ H D = some (.lst xs) ∧ H T = some (.lst ys) ∧ D ≠ T ∧ xs.length ≤ 1000 ∧
  ∀ H', Kst (Own2 D T) H H' → H' D = some (.lst (xs ++ [.ref t])) → H' T = some (.lst []) → Q .non H'
def sp_has_walker (K : PySem.W.Frag) (C : Addr) : Sp := fun vs H Q _ => ∃ (r D T : Addr) (q : Int) (as bs : List Act) (M : Addr → Prop) (n : Str), vs = [.ref r, .str n] ∧ RoadAt K C M H r D T q as bs ∧ ∀ H', Same H H' → Q (.bl (decide (n ∈ namesOf as))) H'
def sp_enter (K : PySem.W.Frag) (C : Addr) : Sp := fun vs H Q _ => ∃ (r D T p : Addr) (q : Int) (as bs : List Act) (M : Addr → Prop) (n : Str) (pl : Int), vs = [.ref r, .str n, .int pl] ∧ RoadAt K C M H r D T q as bs ∧ MOk M p H ∧ nameOk n = true ∧ n ∉ namesOf as ∧ pl.natAbs ≤ 10 ^ 30 ∧ as.length < 1000 ∧
  ∀ H', Kst (Own2 D T) H H' → MOk M p H' → RoadAt K C M H' r D T q (as ++ [.enter n pl]) [] → Q .non H'
def sp_run (K : PySem.W.Frag) (C : Addr) : Sp := fun vs H Q _ => ∃ (r D T p : Addr) (q : Int) (as bs : List Act) (M : Addr → Prop) (n : Str) (u : V) (d : PyData) (b : List Ins), vs = [.ref r, .str n, u] ∧ RoadAt K C M H r D T q as bs ∧ MOk M p H ∧ n ∈ namesOf as ∧ Dp K H u d ∧ IsP d b ∧ ProgOk b ∧ as.length < 1000 ∧
  ∀ H', Kst (Own2 D T) H H' → MOk M p H' → RoadAt K C M H' r D T q (as ++ [.run n d b]) [] → Q .non H'
/-- a moment: None, or a number of actions -/
def MomV (v : V) (len k : Nat) : Prop := (v = .non ∧ k = len) ∨ (v = .int k ∧ k ≤ len)
def sp_number_of (K : PySem.W.Frag) (C : Addr) : Sp := fun vs H Q _ => ∃ (r D T : Addr) (q : Int) (as bs : List Act) (M : Addr → Prop) (v : V) (k : Nat), vs = [.ref r, v] ∧ RoadAt K C M H r D T q as bs ∧ MomV v as.length k ∧ Q (.int k) H
def bigT : Int := 2 ^ 320
def sp_replayed (K : PySem.W.Frag) (C : Addr) : Sp := fun vs H Q _ => ∃ (r D T : Addr) (q : Int) (as bs : List Act) (M : Addr → Prop) (i k : Nat), vs = [.ref r, .int i, .int k] ∧ RoadAt K C M H r D T q as bs ∧ k ≤ as.length ∧
  ∀ t S L ys ts H', Same H H' → SqT K H' t [.ref S, .ref L] → H S = none → H L = none → H' S = some (.dK (stK (stO (as.take k)))) → H' L = some (.lst ys) → TVs K H' ys ts → (∀ x, tvs ts x = dlT i as k x) → (∀ t ∈ ts, TOk 3 bigT 0 t) → ts.length ≤ cnT i as k →
    (∀ t ∈ ts, ∃ n d b, Act.run n d b ∈ as ∧ ∀ y, sct y t.rs ≤ (sdP b).count y) → Q (.ref t) H'
def sp_dial (K : PySem.W.Frag) (C : Addr) : Sp := fun vs H Q _ => ∃ (r D T : Addr) (q : Int) (as bs : List Act) (M : Addr → Prop) (x : Int) (v : V) (k : Nat), vs = [.ref r, .int x, v] ∧ RoadAt K C M H r D T q as bs ∧ 0 < q ∧ MomV v as.length k ∧ x.natAbs ≤ 2 ^ 340 ∧ ∀ H', Same H H' → Q (.int (dlT 0 as k x % q)) H'
def sp_places (K : PySem.W.Frag) (C : Addr) : Sp := fun vs H Q _ => ∃ (r D T : Addr) (q : Int) (as bs : List Act) (M : Addr → Prop) (v : V) (k : Nat), vs = [.ref r, v] ∧ RoadAt K C M H r D T q as bs ∧ MomV v as.length k ∧ (stO (as.take k)).length < 64 ∧
  ∀ S ns H', Same H H' → H S = none → ns.Perm ((stO (as.take k)).map (·.1)) → sortedS ns = true → H' S = some (.dK (stK (ns.map fun n => (n, (gS (stO (as.take k)) n).getD 0)))) → Q (.ref S) H'
/-! methods with defaults -/
structure MetD (CX : CXT) (P : Program) (w : World) (K : PySem.W.Frag) (mg : Str → Option Value) (base : Heap) (C : Addr) (k : Nat) (m : Str) (dvs : List V) (sp : Sp) : Prop where
  ex : ∃ (f : Addr) (fd : FuncData) (ps : List Str) (ds : List Value), FnOk P w K mg base CX k f fd ps sp ∧ Meth K C m f ∧ Binds K fd ps ds ∧ Vals dvs ds
section
variable {CX : CXT} {P : Program} {w : World} {K : PySem.W.Frag} {mg : Str → Option Value} {base : Heap} {C : Addr} {k : Nat} {m : Str} {dvs : List V} {sp : Sp}
noncomputable def MetD.f (c : MetD CX P w K mg base C k m dvs sp) : Addr := c.ex.choose
noncomputable def MetD.fd (c : MetD CX P w K mg base C k m dvs sp) : FuncData := c.ex.choose_spec.choose
noncomputable def MetD.ps (c : MetD CX P w K mg base C k m dvs sp) : List Str := c.ex.choose_spec.choose_spec.choose
noncomputable def MetD.ds (c : MetD CX P w K mg base C k m dvs sp) : List Value := c.ex.choose_spec.choose_spec.choose_spec.choose
theorem MetD.ok (c : MetD CX P w K mg base C k m dvs sp) : FnOk P w K mg base CX k c.f c.fd c.ps sp := c.ex.choose_spec.choose_spec.choose_spec.choose_spec.1
theorem MetD.hm (c : MetD CX P w K mg base C k m dvs sp) : Meth K C m c.f := c.ex.choose_spec.choose_spec.choose_spec.choose_spec.2.1
theorem MetD.b (c : MetD CX P w K mg base C k m dvs sp) : Binds K c.fd c.ps c.ds := c.ex.choose_spec.choose_spec.choose_spec.choose_spec.2.2.1
theorem MetD.v (c : MetD CX P w K mg base C k m dvs sp) : Vals dvs c.ds := c.ex.choose_spec.choose_spec.choose_spec.choose_spec.2.2.2
end
/-- where a method with defaults stands -/
structure DfD (K : PySem.W.Frag) (C : Addr) (m q : Str) (st : Stmt) (dvs : List V) : Prop where
  ex : ∃ (f : Addr) (fd : FuncData), FunD K m q (defArgs st) (defBody st) (defScope st) dvs [] f fd ∧ Meth K C m f
theorem cutV_head (xs : List V) (k : Nat) : cutV xs none (some (k : Int)) = xs.take k := by
  unfold cutV
  have e : HT.sIx xs.length 0 none = 0 := rfl
  rw [e, List.drop_zero, Nat.sub_zero]
  rw [HT.sIx_nat]
  by_cases h : k ≤ xs.length
  · rw [Nat.min_eq_left h]
  · rw [Nat.min_eq_right (by omega), List.take_length, List.take_of_length_le (by omega)]
theorem dfd_mk {K : PySem.W.Frag} {C f T0 : Addr} {m q : Str} {st : Stmt} {oc kV doc pm cdv ct oc2 : Value} {od an od2 : Option Addr} {osl osl2 : Array (Option Value)} {n : Nat}
    (l : K.lookup f = some ⟨oc, od, .func (PySem.W.fnOf m q (defArgs st) (defBody st) (defScope st) (.ref T0) kV doc pm an cdv ct), osl⟩) (c : PySem.W.codeIn K cdv q = true) (k : PySem.W.keepIn K (.ref f) = true)
    (lT : K.lookup T0 = some ⟨oc2, od2, .seq #[.none] n, osl2⟩) (h : Meth K C m f) : DfD K C m q st [.non] :=
  ⟨f, _, ⟨⟨oc, od, _, kV, doc, pm, an, cdv, ct, osl, rfl, l, c, .inr ⟨List.cons_ne_nil _ _, T0, _, [.none], n, rfl, lT, rfl, .cons rfl .nil⟩, .inl rfl⟩, k⟩, h⟩
theorem metd_of {CX : CXT} {P : Program} {w : World} {K : PySem.W.Frag} {mg : Str → Option Value} {base : Heap} {C : Addr} {k : Nat} {m q : Str} {st : Stmt} {dvs : List V} {ps : List Str} {sp : Sp} (D : DfD K C m q st dvs) (n j : Nat) (hd : dvs ≠ []) (hn : n + (dvs.length - j) = ps.length)
    (h : ∀ (T : Addr) (kV doc pm : Value) (an : Option Addr) (cdv ct : Value) (us its : List Value), us.length = n → its.length = dvs.length →
      ∃ g, bindArgs (PySem.W.fnOf m q (defArgs st) (defBody st) (defScope st) (.ref T) kV doc pm an cdv ct) ⟨us, []⟩ = seqItems? (.ref T) >>= g ∧ g (some its.toArray) = pure (ps.zip (us ++ its.drop j)))
    (ok : ∀ f fd, FunD K m q (defArgs st) (defBody st) (defScope st) dvs [] f fd → FnOk P w K mg base CX k f fd ps sp) : MetD CX P w K mg base C k m (dvs.drop j) sp := by
  obtain ⟨f, fd, F, hm⟩ := D.ex
  obtain ⟨ds, h1, h2⟩ := F.binds1 n j hd hn h
  exact ⟨f, fd, ps, ds, ok f fd F, hm, h2, h1⟩
end DR
/-! ### for k, v in the items of a dict whose keys are nested -/
/-! ### whether terms leave nothing -/
namespace DR
open PySem PySem.Spec PyProof.Rows L2
/-- the groups' places are places of the terms -/
def PlIn (ts : List Tm) (G : Grp) : Prop := ∀ g ∈ G, ∀ t ∈ g.2, ∃ u ∈ ts, u.pl = t.1
theorem PlIn.nil {ts : List Tm} : PlIn ts [] := fun _ h => absurd h List.not_mem_nil
theorem PlIn.key {ts : List Tm} {G : Grp} {r : Pol} (h : PlIn ts G) : PlIn ts (gSet G r []) := fun g hg t ht => by
  rcases mem_gSet hg with m | rfl
  · exact h g m t ht
  · exact absurd ht List.not_mem_nil
theorem put_mem : ∀ {m : Pol} {e v : Int} {t : Int × Int}, t ∈ put m e v → t ∈ m ∨ t.1 = e
  | [], e, v, t, h => by
    cases List.mem_singleton.mp h
    exact .inr rfl
  | u :: r, e, v, t, h => by
    unfold put at h
    by_cases q : u.1 = e
    · rw [if_pos q] at h
      rcases List.mem_cons.mp h with z | z
      · exact .inr (by rw [z])
      · exact .inl (List.mem_cons_of_mem _ z)
    · rw [if_neg q] at h
      rcases List.mem_cons.mp h with z | z
      · exact .inl (by rw [z]; exact List.mem_cons_self)
      · exact (put_mem z).imp (List.mem_cons_of_mem _) id
theorem PlIn.turn {ts : List Tm} {G : Grp} {t : Tm} {m : Pol} {v : Int} (h : PlIn ts G) (at_ : gAt G t.rs = some m) (mem : t ∈ ts) : PlIn ts (gSet G t.rs (put m t.pl v)) := fun g hg u hu => by
  rcases mem_gSet hg with q | rfl
  · exact h g q u hu
  · rcases put_mem hu with z | z
    · unfold gAt at at_
      obtain ⟨g0, e1, e2⟩ := Option.map_eq_some_iff.mp at_
      subst e2
      exact h g0 (List.mem_of_find?_eq_some e1) u z
    · exact ⟨t, mem, z.symm⟩
/-! several dicts are locked while a statement runs -/
/-- the groups while their dicts are locked -/
def GLk (K : PySem.W.Frag) (H : Hp) (p : NestedKey × Addr × V) (g : Pol × Pol) : Prop := TPol K H (.ref p.2.1) g.1 ∧ ∃ d o, p.2.2 = .ref d ∧ H d = some (.frz o (.dK (kvOf g.2)))
theorem GLk.same {K : PySem.W.Frag} {H H' : Hp} {p : NestedKey × Addr × V} {g : Pol × Pol} (s : Same H H') (h : GLk K H p g) : GLk K H' p g := by
  obtain ⟨t, d, o, e, z⟩ := h
  exact ⟨t.tp (Same.tp s), d, o, e, s _ _ z⟩
theorem TVs.tq {K : PySem.W.Frag} {H H' : Hp} (q : Tq H H') : ∀ {xs : List V} {ts : List Tm}, TVs K H xs ts → TVs K H' xs ts
  | _, _, .nil => .nil
  | _, _, .cons ⟨a, x, e, hs, hr⟩ t => .cons ⟨a, x, e, q _ _ _ hs, hr.tq q⟩ (TVs.tq q t)
end DR
/-! ### programs that roads run; a law's road -/
namespace DR
open PySem PySem.Spec PyProof.Rows L2
mutual
theorem ctI_parts : ∀ {i : Ins}, CtI i → CI (10 ^ 30) i ∧ NI i ∧ RI (10 ^ 30) i
  | .step c, h => by
    rw [CtI] at h
    rw [CI, NI, RI]
    exact ⟨h, trivial, trivial⟩
  | .turn c, h => by
    rw [CtI] at h
    rw [CI, NI, RI]
    exact ⟨h, trivial, trivial⟩
  | .rep n b, h => by
    rw [CtI] at h
    rw [CI, NI, RI]
    obtain ⟨a, b, c⟩ := ctP_parts h.2.2
    exact ⟨a, ⟨h.1, b⟩, h.2.1, c⟩
theorem ctP_parts : ∀ {b : List Ins}, CtP b → CP (10 ^ 30) b ∧ NP b ∧ RP (10 ^ 30) b
  | [], _ => ⟨by rw [CP]; trivial, by rw [NP]; trivial, by rw [RP]; trivial⟩
  | i :: r, h => by
    rw [CtP_cons] at h
    obtain ⟨a, b, c⟩ := ctI_parts h.1
    obtain ⟨a2, b2, c2⟩ := ctP_parts h.2
    exact ⟨by rw [CP_cons]; exact ⟨a, a2⟩, by rw [NP]; exact ⟨b, b2⟩, by rw [RP_cons]; exact ⟨c, c2⟩⟩
end
mutual
theorem sdI_rp : ∀ i : Ins, (sdI i).length = rpI i
  | .step _ => by rw [sdI, rpI]; rfl
  | .turn _ => by rw [sdI, rpI]; rfl
  | .rep n b => by rw [sdI, rpI, List.length_cons, sdP_rp b]
theorem sdP_rp : ∀ b : List Ins, (sdP b).length = rpP b
  | [] => by rw [sdP_nil, rpP_nil]; rfl
  | i :: r => by rw [sdP_cons, rpP_cons, List.length_append, sdI_rp i, sdP_rp r]
end
theorem GdP.prog {b : List Ins} {k N m : Nat} (h : GdP b k N m) (hk : k ≤ 2) (hN : N ≤ 100) (hm : m ≤ 5) : ProgOk b := by
  obtain ⟨a1, a2, a3⟩ := ctP_parts h.g
  exact ⟨by have := h.d; omega, a1, a2, a3, Nat.le_trans h.c hN, by rw [sdP_rp]; exact Nat.le_trans h.r hm, (h.ok (by omega)).w⟩
/-- a pen and a road's lists are what changes -/
def M3 (p D T : Addr) : Addr → Prop := fun b => b = p ∨ b = D ∨ b = T
theorem M3.mok {p D T : Addr} {H : Hp} {kvs : List (Key × V)} {xs ys : List V} (hp : H p = some (.dK kvs)) (hD : H D = some (.lst xs)) (hT : H T = some (.lst ys)) : MOk (M3 p D T) p H :=
  ⟨.inl rfl, fun b h => h.elim .inl fun z => z.elim (fun e => .inr ⟨xs, e ▸ hD⟩) fun e => .inr ⟨ys, e ▸ hT⟩, kvs, hp⟩
/-- a road that was made just now -/
theorem RoadAt.made {K : PySem.W.Frag} {C p r D T dx : Addr} {H' : Hp} {q : Int} (e : H' r = some (.ins C dx (roF q D T))) (hD : H' D = some (.lst [])) (hT : H' T = some (.lst [])) (np : r ≠ p) (ne : D ≠ T) : RoadAt K C (M3 p D T) H' r D T q [] [] := by
  refine ⟨⟨dx, e⟩, ⟨[], hD, .nil⟩, ⟨[], hT, .nil⟩, .inr (.inl rfl), .inr (.inr rfl), fun z => ?_, ne, Nat.zero_le _, Nat.zero_le _, Lgl.nil⟩
  rcases z with z | z | z
  · exact np z
  · rw [z, hD] at e
    cases e
  · rw [z, hT] at e
    cases e
/-- data of before a road was made -/
theorem M3.data {K : PySem.W.Frag} {p D T : Addr} {H : Hp} {kvs : List (Key × V)} {v : V} {d : PyData} (hp : H p = some (.dK kvs)) (nD : H D = none) (nT : H T = none) (h : Dp K H v d) : Dp K (erM (M3 p D T) H) v d := by
  refine Dp.kpd hp (fun b o n e => erM_of (fun z => ?_) e) h
  rcases z with z | z | z
  · exact n z
  · rw [z, nD] at e
    cases e
  · rw [z, nT] at e
    cases e
/-- a law's pen, its road, and a program of its own -/
structure LawR (K : PySem.W.Frag) (C p c : Addr) (n : Nat) (H : Hp) (r D T : Addr) (q : Int) (as bs : List Act) (u : V) (d : PyData) : Prop where
  pen : PenAt H p c n
  road : RoadAt K C (M3 p D T) H r D T q as bs
  mok : MOk (M3 p D T) p H
  code : Dp K (erM (M3 p D T) H) u d
  cell : c ≠ D ∧ c ≠ T
section
variable {K : PySem.W.Frag} {C p c r D T : Addr} {n m : Nat} {H H' : Hp} {q : Int} {as bs as' bs' : List Act} {u : V} {d : PyData}
theorem LawR.dp (L : LawR K C p c n H r D T q as bs u d) : Dp K H u d := Dp.same erM_le L.code
theorem LawR.kp (L : LawR K C p c n H r D T q as bs u d) (k : Kp p H H') (pen : PenAt H' p c m) : LawR K C p c m H' r D T q as bs u d := by
  refine ⟨pen, L.road.kp L.mok k, ⟨L.mok.pen, fun b h => ?_, ?_⟩, Dp.same (Kst.er (k.ks L.mok.pen)) L.code, L.cell⟩
  · rcases L.mok.lists b h with e | ⟨xs, e⟩
    · exact .inl e
    · by_cases z : b = p
      · exact .inl z
      · exact .inr ⟨xs, k _ _ z e⟩
  · obtain ⟨_, _, _, e, _⟩ := pen.ex
    exact ⟨_, e⟩
theorem LawR.same (L : LawR K C p c n H r D T q as bs u d) (s : Same H H') : LawR K C p c n H' r D T q as bs u d := L.kp (Same.kp s) (L.pen.same s)
theorem LawR.mono (L : LawR K C p c n H r D T q as bs u d) (h : n ≤ m) : LawR K C p c m H r D T q as bs u d := ⟨L.pen.mono h, L.road, L.mok, L.code, L.cell⟩
theorem LawR.own (L : LawR K C p c n H r D T q as bs u d) (k : Kst (Own2 D T) H H') (mok : MOk (M3 p D T) p H') (road : RoadAt K C (M3 p D T) H' r D T q as' bs') : LawR K C p c n H' r D T q as' bs' u d := by
  obtain ⟨ns, x, y, hp, hc, h0, h9⟩ := L.pen.ex
  obtain ⟨xs, hD, _⟩ := L.road.dn
  obtain ⟨ys, hT, _⟩ := L.road.tb
  have n1 := ne_of hp hD (by intro z; cases z)
  have n2 := ne_of hp hT (by intro z; cases z)
  have kM : Kst (M3 p D T) H H' := k.sub fun b z => .inr z
  exact ⟨⟨ns, x, y, k _ _ (fun z => z.elim n1 n2) hp, k _ _ (fun z => z.elim L.cell.1 L.cell.2) hc, h0, h9⟩, road, mok, Dp.same kM.er L.code, L.cell⟩
end
/-! two walkers -/
end DR
namespace DR
open PySem PySem.Spec PyProof.Rows L2
/-! ### dead ends -/
/-! the words that leave a dead end -/
/-! what the defs promise -/
/-- a list of pairs at L -/
def LstP (K : PySem.W.Frag) (H : Hp) (L : Addr) (f : Pol) : Prop := ∃ ys, H L = some (.lst ys) ∧ Prs K H ys f
theorem LstP.kp {K : PySem.W.Frag} {H H' : Hp} {p c L : Addr} {n : Nat} {f : Pol} (pen : PenAt H p c n) (k : Kp p H H') (h : LstP K H L f) : LstP K H' L f := by
  obtain ⟨ys, h1, h2⟩ := h
  exact ⟨ys, k _ _ (pen_nl pen h1) h1, Prs.tp (pen.tp k) h2⟩
theorem LstP.same {K : PySem.W.Frag} {H H' : Hp} {L : Addr} {f : Pol} (s : Same H H') (h : LstP K H L f) : LstP K H' L f := by
  obtain ⟨ys, h1, h2⟩ := h
  exact ⟨ys, s _ _ h1, Prs.tp (Same.tp s) h2⟩
end DR
/-! ### words, calls, and what walkers are told -/
namespace DR
open PySem PySem.Spec PyProof.Rows L2 TL
/-- small letters only -/
def Ltr (z : Str) : Prop := ∀ c ∈ tl z, 97 ≤ c ∧ c ≤ 122
theorem nameOk_of {z : Str} (h : Ltr z) (h1 : 1 ≤ z.length) (h8 : z.length ≤ 8) : nameOk z = true := by
  unfold nameOk
  rw [decide_eq_true ⟨h1, h8⟩, Bool.true_and]
  exact decide_eq_true h
theorem joinL_nil : ∀ ps : List (List Nat), joinL [] ps = ps.flatten
  | [] => rfl
  | [p] => by
    show p = p ++ []
    rw [List.append_nil]
  | p :: q :: r => by
    show p ++ ([] ++ joinL [] (q :: r)) = p ++ (q :: r).flatten
    rw [joinL_nil (q :: r), List.nil_append]
theorem tl_empty : tl ("" : Str) = [] := by decide +kernel
theorem tl_glue (ys : List Str) : tl (Txt.join "" ys) = (ys.map tl).flatten := by
  rw [join_eq, tl_join, tl_empty, joinL_nil]
/-- one letter each -/
def One (z : Str) : Prop := z.length = 1 ∧ Ltr z
theorem one_glue : ∀ {ys : List Str}, (∀ z ∈ ys, One z) → (Txt.join "" ys).length = ys.length ∧ Ltr (Txt.join "" ys) ∧ (ys.map (·.length)).sum = ys.length := by
  intro ys h
  have go : ((ys.map tl).flatten.length = ys.length ∧ (ys.map (·.length)).sum = ys.length) ∧ ∀ c ∈ (ys.map tl).flatten, 97 ≤ c ∧ c ≤ 122 := by
    induction ys with
    | nil => exact ⟨⟨rfl, rfl⟩, fun c h => absurd h List.not_mem_nil⟩
    | cons z r ih =>
      obtain ⟨⟨e1, e2⟩, e3⟩ := ih fun y hy => h y (List.mem_cons_of_mem _ hy)
      obtain ⟨z1, z2⟩ := h z List.mem_cons_self
      have z1' := z1
      rw [len_tl] at z1'
      refine ⟨⟨?_, ?_⟩, fun c hc => ?_⟩
      · rw [List.map_cons, List.flatten_cons, List.length_append, e1, z1', List.length_cons]
        omega
      · rw [List.map_cons, List.sum_cons, e2, List.length_cons]
        show z.length + _ = _
        omega
      · rw [List.map_cons, List.flatten_cons] at hc
        exact (List.mem_append.mp hc).elim (z2 c) (e3 c)
  refine ⟨?_, ?_, go.1.2⟩
  · rw [len_tl, tl_glue]
    exact go.1.1
  · intro c hc
    rw [tl_glue] at hc
    exact go.2 c hc
theorem abc_at : ∀ i : Nat, i < 26 → (tl ("abcdefghijklmnopqrstuvwxyz" : Str))[i]? = some (97 + i) := by decide +kernel
theorem abc_mem : ∀ i ∈ tl ("abcdefghijklmnopqrstuvwxyz" : Str), 97 ≤ i ∧ i ≤ 122 := by decide +kernel
theorem tl_one (i : Nat) : tl (⟨#[i]⟩ : Str) = [i] := rfl
theorem one_of {i : Nat} (h : 97 ≤ i ∧ i ≤ 122) : One ⟨#[i]⟩ := ⟨rfl, fun c hc => by
  rw [tl_one, List.mem_singleton] at hc
  rw [hc]
  exact h⟩
/-- [a drawn letter for k in range(a drawn number)] -/
theorem lcPenL {p c : Addr} {σ : L2.St} {H : Hp} {vs : List Nat} {i : Nat} {te : TE} {ta : TA} {Q : VK} (b0 cost : Nat) (R : Str → Prop) (P : Nat → Prop) (hv : ∀ S : List V → Hp → Prop, (∀ N H1, P N → N ≤ 1000 → Kp p H H1 → PenAt H1 p c b0 → S [V.int ((N : Nat) : Int)] H1) → ta σ H S)
    (hw : ∀ x, wipe ((wipe σ vs).set i (some x)) vs = wipe σ vs)
    (he : ∀ (m : Nat) H2, m < 1000 → PenAt H2 p c (b0 + cost * m) → ∀ S : VK, (∀ x H3, R x → Kp p H2 H3 → PenAt H3 p c (b0 + cost * (m + 1)) → S (.str x) H3) → te ((wipe σ vs).set i (some (.int (0 + (m : Int))))) H2 S)
    (k : ∀ N D H2 (ns : List Str), P N → Kp p H H2 → PenAt H2 p c (b0 + cost * N) → H2 D = some (.lst (ns.map V.str)) → ns.length = N → (∀ x ∈ ns, R x) → Q (.ref D) H2) : tLc (iRng1 ta) (gName i) tYes te vs σ H Q := by
  refine hv _ fun N H1 hP hN k1 pen => ⟨_, rfl, by omega, by omega, fun D nD => ?_⟩
  have npD := pen.np nD
  have ncD := pen.nc nD
  refine lc_range (lo := 0) (n := ((N : Nat) : Int).toNat) (fun m H2 => Kp p H1 H2 ∧ PenAt H2 p c (b0 + cost * m) ∧ ∃ ns : List Str, H2 D = some (.lst (ns.map V.str)) ∧ ns.length = m ∧ ∀ x ∈ ns, R x) ⟨Same.kp (same_new nD), pen.same (same_new nD), [], upd_same, rfl, fun t h => absurd h List.not_mem_nil⟩ ?_ ?_
  · rintro m H2 hm ⟨k2, pen2, ns, hD, hl, hr⟩
    rw [Int.toNat_natCast] at hm
    refine ⟨hw _, ?_⟩
    dsimp only [tYes]
    rw [if_pos rfl]
    refine he m H2 (by omega) pen2 _ fun x H3 rx k3 pen3 => ?_
    have hD3 := k3 _ _ npD hD
    refine ⟨_, hD3, sl_lt (by rw [List.length_map]; omega), fun y o ny ey => ?_, pen3.upd npD ncD, ns ++ [x], ?_, by rw [List.length_append, hl]; rfl, fun y hy => ?_⟩
    · rw [upd_ne (ne_of_none ey nD)]
      exact k3 _ _ ny (k2 _ _ ny ey)
    · rw [upd_same, List.map_append]
      rfl
    · rcases List.mem_append.mp hy with h | h
      · exact hr y h
      · rw [List.mem_singleton.mp h]
        exact rx
  · rintro H2 ⟨k2, pen2, ns, hD, hl, hr⟩
    rw [Int.toNat_natCast] at pen2 hl
    exact k N D H2 ns hP (k1.trans k2) pen2 hD hl hr
def sp__law_word : Sp := fun vs H Q _ => ∃ (p c : Addr) (n : Nat), vs = [.ref p] ∧ PenAt H p c n ∧ n < 2 ^ 38 ∧ ∀ z H', Kp p H H' → PenAt H' p c (n + 9) → Ltr z → 1 ≤ z.length → z.length ≤ 8 → Q (.str z) H'
/-- the last letter says whose name it is -/
def Tail (z : Str) (k : Nat) : Prop := ∃ pre d, d < 2 ∧ tl z = pre ++ [97 + d * 7 + k]
theorem Tail.ne {z y : Str} {k m : Nat} (hk : k < 7) (hm : m < 7) (a : Tail z k) (b : Tail y m) (e : z = y) : k = m := by
  obtain ⟨p1, d1, l1, e1⟩ := a
  obtain ⟨p2, d2, l2, e2⟩ := b
  rw [e, e2] at e1
  obtain ⟨_, q⟩ := List.append_inj' e1 rfl
  have := (List.cons.inj q).1
  omega
def sp__law_calls : Sp := fun vs H Q _ => ∃ (p c : Addr) (many : Int) (n : Nat), vs = [.ref p, .int many] ∧ 0 ≤ many ∧ many ≤ 7 ∧ PenAt H p c n ∧ n < 2 ^ 38 ∧
  ∀ (L : Addr) (ns : List Str) (H' : Hp), H L = none → Kp p H H' → PenAt H' p c (n + 25) → H' L = some (.lst (ns.map V.str)) → ns.length = many.toNat → ns.Nodup → (∀ z ∈ ns, nameOk z = true) → Q (.ref L) H'
/-- a program that stays near, and ends soon -/
structure Mild (b : List Ins) (k N m : Nat) : Prop where
  gd : GdP b k N m
  rp : RP 5 b
  cp : CP 4 b
theorem Mild.app {b c : List Ins} {k j N M m l : Nat} (h : Mild b k N m) (h2 : Mild c j M l) : Mild (b ++ c) (max k j) (N + M) (m + l) := ⟨h.gd.app h2.gd, RP_app _ _ h.rp h2.rp, CP_app h.cp h2.cp⟩
theorem Mild.rep {b : List Ins} {k N m : Nat} {n : Int} (h : Mild b k N m) (h0 : 0 ≤ n) (h5 : n ≤ 5) : Mild [.rep n b] (k + 1) (N + 1) (m + 1) := by
  refine ⟨h.gd.rep h0 (Int.le_trans h5 (by decide +kernel)), ?_, ?_⟩
  · rw [RP_cons, RI]
    exact ⟨⟨h5, h.rp⟩, by rw [RP]; trivial⟩
  · rw [CP_cons, CI]
    exact ⟨h.cp, by rw [CP]; trivial⟩
theorem Mild.up {b : List Ins} {k j N M m l : Nat} (h : Mild b k N m) (h1 : k ≤ j) (h2 : N ≤ M) (h3 : m ≤ l) : Mild b j M l := ⟨h.gd.up h1 h2 h3, h.rp, h.cp⟩
theorem Mild.ex {b : List Ins} {k N m : Nat} (h : Mild b k N m) : exP b ≤ ((N * 5 ^ k : Nat) : Int) := Int.le_trans (ex_bd (R := 5) (by decide) k b h.gd.d (ctP_parts h.gd.g).2.1 h.rp) (Int.ofNat_le.mpr (Nat.mul_le_mul_right _ h.gd.c))
theorem ltr_cut {z : Str} (h : Ltr z) (lo hi : Option Int) : Ltr (cutS z lo hi) := fun c hc => h c (List.mem_of_mem_drop (List.mem_of_mem_take hc))
theorem ltr_app {a b : Str} (h1 : Ltr a) (h2 : Ltr b) : Ltr (a ++ b) := fun c hc => by
  rw [tl_append] at hc
  exact (List.mem_append.mp hc).elim (h1 c) (h2 c)
theorem cut_lenI (z : Str) (hi : Option Int) : (cutS z none hi).length ≤ HT.sIx z.length z.length hi := by
  rw [len_tl]
  show (List.take (HT.sIx z.length z.length hi - HT.sIx z.length 0 none) (List.drop (HT.sIx z.length 0 none) z.cps.toList)).length ≤ _
  rw [List.length_take]
  omega
theorem cut_end {z : Str} (h8 : z.length ≤ 8) : (cutS z none (some (-1))).length ≤ 7 := by
  refine Nat.le_trans (cut_lenI z _) ?_
  generalize z.length = n at h8
  revert n
  decide
theorem cut_one {z : Str} (h8 : z.length ≤ 8) : (cutS z none (some 1)).length ≤ 7 := by
  refine Nat.le_trans (cut_lenI z _) ?_
  generalize z.length = n at h8
  revert n
  decide
theorem ltr_empty : Ltr "" := fun c hc => by
  rw [tl_empty] at hc
  cases hc
/-- an action that a road takes -/
def ActOk (as : List Act) : Act → Prop
  | .enter n pl => nameOk n = true ∧ n ∉ namesOf as ∧ pl.natAbs ≤ 10 ^ 30
  | .run n d b => n ∈ namesOf as ∧ ProgOk b ∧ IsP d b
def sp__law_act (K : PySem.W.Frag) (C : Addr) : Sp := fun vs H Q _ => ∃ (r D T p : Addr) (q : Int) (as bs : List Act) (M : Addr → Prop) (v : V) (a : Act), vs = [.ref r, v] ∧ RoadAt K C M H r D T q as bs ∧ MOk M p H ∧ ActV K H v a ∧ ActOk as a ∧ as.length < 1000 ∧
  ∀ H', Kst (Own2 D T) H H' → MOk M p H' → RoadAt K C M H' r D T q (as ++ [a]) [] → Q .non H'
/-- an action, as data -/
def actD : Act → PyData
  | .enter n pl => .tuple [.str "enter", .str n, .int pl]
  | .run n d _ => .tuple [.str "run", .str n, d]
theorem ActV.dp {K : PySem.W.Frag} {G : Hp} {v : V} {a : Act} (h : ActV K G v a) : Dp K G v (actD a) := by
  cases a with
  | enter n pl =>
    obtain ⟨t, rfl, z⟩ := h
    exact .tup z (.cons (.str _) (.cons (.str _) (.cons (.int _) .nil)))
  | run n d b =>
    obtain ⟨t, u, rfl, z, hd, hp⟩ := h
    exact .tup z (.cons (.str _) (.cons (.str _) (.cons hd .nil)))
theorem ActVs.dp {K : PySem.W.Frag} {G : Hp} : ∀ {xs : List V} {as : List Act}, ActVs K G xs as → DpAll K G xs (as.map actD)
  | [], [], _ => .nil
  | v :: xs, a :: as, h => by
    cases h with
    | cons h1 h2 => exact .cons h1.dp (ActVs.dp h2)
theorem ActVs.app {K : PySem.W.Frag} {G : Hp} : ∀ {xs ys : List V} {as bs : List Act}, ActVs K G xs as → ActVs K G ys bs → ActVs K G (xs ++ ys) (as ++ bs)
  | [], _, [], _, _, h => h
  | v :: xs, ys, a :: as, bs, h, h2 => by
    cases h with
    | cons h1 h3 => exact .cons h1 (ActVs.app h3 h2)
theorem ActVs.take {K : PySem.W.Frag} {G : Hp} : ∀ {xs : List V} {as : List Act} (n : Nat), ActVs K G xs as → ActVs K G (xs.take n) (as.take n)
  | _, _, 0, _ => by
    rw [List.take_zero, List.take_zero]
    exact .nil
  | [], [], n + 1, _ => .nil
  | v :: xs, a :: as, n + 1, h => by
    cases h with
    | cons h1 h3 => exact .cons h1 (ActVs.take n h3)
/-! beside what was there, while a pen moves -/
theorem er_dict {H0 H : Hp} {p : Addr} {kvs kvs0 : List (Key × V)} (h0 : H0 p = some (.dK kvs0)) (h : H p = some (.dK kvs)) : er H0 H p = some (.dK kvs) := er_of h fun xs z => by
  rw [h0] at z
  cases z
theorem er_tpk {H0 H : Hp} {p : Addr} {kvs0 : List (Key × V)} (h0 : H0 p = some (.dK kvs0)) (k : Kp p H0 H) : Tp H (er H0 H) := by
  have ne : ∀ {b : Addr} {xs : List V}, H0 b = some (.lst xs) → b ≠ p := fun e z => by
    rw [z, h0] at e
    cases e
  exact ⟨fun b xs e => er_of e fun ys z => (by
    rw [k _ _ (ne z) z] at e
    cases e), fun b o u e => er_of e fun ys z => (by
    rw [k _ _ (ne z) z] at e
    cases e)⟩
theorem none_k {p a : Addr} {H H' : Hp} (k : Kp p H H') (d : ∃ kvs, H' p = some (.dK kvs)) (h : H' a = none) : H a = none := by
  cases e : H a with
  | none => rfl
  | some o =>
    by_cases z : a = p
    · obtain ⟨kvs, q⟩ := d
      rw [z, q] at h
      cases h
    · rw [k _ _ z e] at h
      cases h
section
variable {K : PySem.W.Frag} {H0 H H' : Hp} {p c : Addr} {n m : Nat} {v : V} {i : Ins} {b : List Ins} {xs : List V}
theorem IV.ek (p0 : PenAt H0 p c n) (p1 : PenAt H p c m) (k : Kp p H H') (h : IV K (er H0 H) v i) : IV K (er H0 H') v i := by
  obtain ⟨d, hd, z⟩ := h
  obtain ⟨_, _, _, e0, _⟩ := p0.ex
  obtain ⟨_, _, _, e1, _⟩ := p1.ex
  exact ⟨d, Dp.kpd (er_dict e0 e1) (er_kp k) hd, z⟩
theorem PV.ek (p0 : PenAt H0 p c n) (p1 : PenAt H p c m) (k : Kp p H H') (h : PV K (er H0 H) v b) : PV K (er H0 H') v b := by
  obtain ⟨d, hd, z⟩ := h
  obtain ⟨_, _, _, e0, _⟩ := p0.ex
  obtain ⟨_, _, _, e1, _⟩ := p1.ex
  exact ⟨d, Dp.kpd (er_dict e0 e1) (er_kp k) hd, z⟩
theorem IVs.ek (p0 : PenAt H0 p c n) (p1 : PenAt H p c m) (k : Kp p H H') : ∀ {xs : List V} {b : List Ins}, IVs K (er H0 H) xs b → IVs K (er H0 H') xs b
  | [], [], _ => .nil
  | x :: xs, i :: b, h => by
    cases h with
    | cons h1 h2 => exact .cons (h1.ek p0 p1 k) (IVs.ek p0 p1 k h2)
/-- what is made now stands there -/
theorem PenAt.dk (h : PenAt H p c n) : ∃ kvs, H p = some (.dK kvs) := by
  obtain ⟨_, _, _, e, _⟩ := h.ex
  exact ⟨_, e⟩
end
/-- every action is one that a road takes -/
def Taken (as : List Act) : Prop := ∀ j a, as[j]? = some a → ActOk (as.take j) a
theorem Taken.nil : Taken [] := fun j a h => by cases h
theorem Taken.take {as : List Act} (h : Taken as) (k : Nat) : Taken (as.take k) := fun j x e => by
  rw [List.getElem?_take] at e
  split at e
  · next lt =>
    have := h j x e
    rwa [List.take_take, Nat.min_eq_left (by omega)]
  · cases e
theorem Taken.snoc {as : List Act} {a : Act} (h : Taken as) (ok : ActOk as a) : Taken (as ++ [a]) := fun j x e => by
  by_cases lt : j < as.length
  · rw [List.getElem?_append_left lt] at e
    rw [List.take_append_of_le_length (by omega)]
    exact h j x e
  · have e2 : j = as.length := by
      have := (List.getElem?_eq_some_iff.mp e).1
      rw [List.length_append] at this
      show j = as.length
      have l1 : [a].length = 1 := rfl
      omega
    subst e2
    rw [List.getElem?_append_right (Nat.le_refl _), Nat.sub_self] at e
    cases e
    rw [List.take_append_of_le_length (Nat.le_refl _), List.take_length]
    exact ok
theorem Taken.lg {as : List Act} (h : Taken as) : Lgl as := by
  have go : ∀ j, j ≤ as.length → Lgl (as.take j) := fun j => by
    induction j with
    | zero =>
      intro _
      rw [List.take_zero]
      exact .nil
    | succ j ih =>
      intro hj
      have ih := ih (by omega)
      have at_ : as[j]? = some as[j] := List.getElem?_eq_getElem (by omega)
      have ok := h j _ at_
      obtain ⟨names, _⟩ := ih.names
      rw [take_snoc at_]
      refine ih.snoc ?_
      generalize as[j] = a at ok
      cases a with
      | enter n pl => exact ⟨gS_none.mpr (by rw [names]; exact ok.2.1), ok.2.2⟩
      | run n d b =>
        refine ⟨?_, ok.2.1, ok.2.2⟩
        cases e : gS (stO (as.take j)) n with
        | some z => exact ⟨z, rfl⟩
        | none => exact absurd ok.1 (by rw [← names]; exact gS_none.mp e)
  have := go as.length (Nat.le_refl _)
  rwa [List.take_length] at this
theorem names_app (as bs : List Act) : namesOf (as ++ bs) = namesOf as ++ namesOf bs := by
  unfold namesOf
  exact List.filterMap_append
/-- a short program, that stays near -/
structure NearP (b : List Ins) : Prop where
  po : ProgOk b
  rp : RP 5 b
  dp : dpP b ≤ 1
  cn : cnP b ≤ 6
  sd : (sdP b).length ≤ 1
theorem NearP.ex {b : List Ins} (h : NearP b) : exP b ≤ 30 := Int.le_trans (ex_bd (R := 5) (by decide) 1 b h.dp h.po.np h.rp) (Int.ofNat_le.mpr (Nat.mul_le_mul_right _ h.cn))
/-- actions that grow in a list, while a pen moves -/
structure ActsR (P : List Ins → Prop) (K : PySem.W.Frag) (p c : Addr) (n : Nat) (H : Hp) (D T : Addr) (as : List Act) (ks : List Str) : Prop where
  pen : PenAt H p c n
  ls : ∃ xs, H D = some (.lst xs) ∧ ActVs K (erM (M3 p D T) H) xs as
  kn : H T = some (.lst (ks.map V.str))
  ne : D ≠ T
  np : D ≠ p ∧ T ≠ p
  nc : D ≠ c ∧ T ≠ c
  tk : Taken as
  nr : ∀ n d b, Act.run n d b ∈ as → P b
section
variable {P : List Ins → Prop} {K : PySem.W.Frag} {p c D T : Addr} {n m : Nat} {H H' : Hp} {as : List Act} {ks : List Str}
theorem ActsR.mok (R : ActsR P K p c n H D T as ks) : MOk (M3 p D T) p H := by
  obtain ⟨_, e⟩ := R.pen.dk
  obtain ⟨_, hD, _⟩ := R.ls
  exact M3.mok e hD R.kn
theorem ActsR.kp (R : ActsR P K p c n H D T as ks) (k : Kp p H H') (pen : PenAt H' p c m) : ActsR P K p c m H' D T as ks := by
  obtain ⟨xs, hD, hA⟩ := R.ls
  exact ⟨pen, ⟨xs, k _ _ R.np.1 hD, hA.same (k.ks R.mok.pen).er⟩, k _ _ R.np.2 R.kn, R.ne, R.np, R.nc, R.tk, R.nr⟩
theorem ActsR.same (R : ActsR P K p c n H D T as ks) (s : Same H H') : ActsR P K p c n H' D T as ks := R.kp (Same.kp s) (R.pen.same s)
theorem ActsR.mono (R : ActsR P K p c n H D T as ks) (h : n ≤ m) : ActsR P K p c m H D T as ks := ⟨R.pen.mono h, R.ls, R.kn, R.ne, R.np, R.nc, R.tk, R.nr⟩
theorem ActsR.name (R : ActsR P K p c n H D T as ks) (z : Str) : ActsR P K p c n (upd H T (.lst (ks.map V.str ++ [.str z]))) D T as (ks ++ [z]) := by
  obtain ⟨ys, hD, hA⟩ := R.ls
  have k : Kst (M3 p D T) H (upd H T (.lst (ks.map V.str ++ [.str z]))) := (Kst.refl _ _).upd (.inr (.inr rfl))
  exact ⟨R.pen.upd R.np.2 R.nc.2, ⟨ys, by rw [upd_ne R.ne]; exact hD, hA.same k.er⟩, by rw [upd_same, List.map_append]; rfl, R.ne, R.np, R.nc, R.tk, R.nr⟩
/-- data of before, but for lists that may change -/
theorem ActsR.fresh (R : ActsR P K p c n H D T as ks) (pen : PenAt H' p c m) {v : V} {b : List Ins} (h : PV K (er H H') v b) : ∃ d, Dp K (erM (M3 p D T) H') v d ∧ IsP d b := by
  obtain ⟨d, hd, hp⟩ := h
  obtain ⟨_, e⟩ := pen.dk
  exact ⟨d, R.mok.data e hd, hp⟩
end
end DR
/-! ### dials shown, and compared -/
namespace DR
open PySem PySem.Spec PyProof.Rows L2
/-! what a part of a history leaves -/
/-- dicts of dials, in a list -/
abbrev Dks (H : Hp) : List Addr → List Pol → Prop := Paired fun d m => H d = some (.dK (kvOf m))
theorem Dks.same {H H' : Hp} (s : Same H H') : ∀ {ds : List Addr} {ms : List Pol}, Dks H ds ms → Dks H' ds ms
  | [], [], _ => .nil
  | d :: ds, m :: ms, h => by
    cases h with
    | cons h1 h2 => exact .cons (s _ _ h1) (Dks.same s h2)
theorem Dks.kp {p : Addr} {H H' : Hp} (k : Kp p H H') : ∀ {ds : List Addr} {ms : List Pol}, (∀ d ∈ ds, d ≠ p) → Dks H ds ms → Dks H' ds ms
  | [], [], _, _ => .nil
  | d :: ds, m :: ms, n, h => by
    cases h with
    | cons h1 h2 => exact .cons (k _ _ (n d List.mem_cons_self) h1) (Dks.kp k (fun x hx => n x (List.mem_cons_of_mem _ hx)) h2)
theorem Dks.app {H : Hp} : ∀ {ds es : List Addr} {ms ns : List Pol}, Dks H ds ms → Dks H es ns → Dks H (ds ++ es) (ms ++ ns)
  | [], _, [], _, _, h => h
  | d :: ds, es, m :: ms, ns, h, h2 => by
    cases h with
    | cons h1 h3 => exact .cons h1 (Dks.app h3 h2)
theorem Dks.len {H : Hp} {ds : List Addr} {ms : List Pol} (h : Dks H ds ms) : ds.length = ms.length := Paired.length h
theorem Dks.upd {H : Hp} {D : Addr} {o : HO} : ∀ {ds : List Addr} {ms : List Pol}, (∀ d ∈ ds, d ≠ D) → Dks H ds ms → Dks (upd H D o) ds ms
  | [], [], _, _ => .nil
  | d :: ds, m :: ms, n, h => by
    cases h with
    | cons h1 h2 => exact .cons (by rw [upd_ne (n d List.mem_cons_self)]; exact h1) (Dks.upd (fun x hx => n x (List.mem_cons_of_mem _ hx)) h2)
/-! actions, as text -/
theorem Taken.name {as : List Act} (h : Taken as) : ∀ z ∈ namesOf as, nameOk z = true := fun z hz => by
  obtain ⟨a, ha, e⟩ := List.mem_filterMap.mp hz
  obtain ⟨j, hj⟩ := List.getElem?_of_mem ha
  have ok := h j a hj
  cases a with
  | enter n pl =>
    cases e
    exact ok.1
  | run n d b => cases e
/-! two moments, asked of a road -/
/-! one long program -/
/-- a long program without repeats -/
structure LongP (b : List Ins) : Prop where
  po : ProgOk b
  rp : RP 5 b
  dp : dpP b = 0
  cn : cnP b ≤ 60
  sd : (sdP b).length ≤ 1
theorem LongP.ex {b : List Ins} (h : LongP b) : exP b ≤ 60 := Int.le_trans (ex_bd (R := 5) (by decide) 0 b (Nat.le_of_eq h.dp) h.po.np h.rp) (Int.ofNat_le.mpr (Nat.le_trans (Nat.mul_le_mul_right _ h.cn) (by decide)))
end DR
/-! ### what is accepted is written in one way; beginnings and their completions -/
/-! ### beginnings that are completed -/
/-! ### a list of texts, counted -/
/-! ### histories, drawn -/
namespace DR
open PySem PySem.Spec PyProof.Rows L2 TL
/-- a program in a list, or in a tuple, that stands in this heap -/
def PVx (K : PySem.W.Frag) (H : Hp) (v : V) (b : List Ins) : Prop := ∃ a xs, v = .ref a ∧ (H a = some (.lst xs) ∨ H a = some (.tup xs)) ∧ IVs K H xs b
theorem PVx.same {K : PySem.W.Frag} {H H' : Hp} {v : V} {b : List Ins} (s : Same H H') (h : PVx K H v b) : PVx K H' v b := by
  obtain ⟨a, xs, rfl, e, hI⟩ := h
  exact ⟨a, xs, rfl, e.imp (s _ _) (s _ _), hI.same s⟩
theorem PVx.ek {K : PySem.W.Frag} {H0 H H' : Hp} {p c : Addr} {n m : Nat} {v : V} {b : List Ins} (p0 : PenAt H0 p c n) (p1 : PenAt H p c m) (k : Kp p H H') (h : PVx K (er H0 H) v b) : PVx K (er H0 H') v b := by
  obtain ⟨a, xs, rfl, e, hI⟩ := h
  obtain ⟨_, e0⟩ := p0.dk
  obtain ⟨_, e1⟩ := p1.dk
  have ne : a ≠ p := fun z => by
    have q := er_dict e0 e1
    rw [z] at e
    rcases e with e | e <;> rw [q] at e <;> cases e
  exact ⟨a, xs, rfl, e.imp (er_kp k _ _ ne) (er_kp k _ _ ne), hI.ek p0 p1 k⟩
/-- a program of a history -/
structure DeepP (b : List Ins) : Prop where
  po : ProgOk b
  rp : RP 5 b
  dp : dpP b ≤ 2
  cn : cnP b ≤ 11
theorem DeepP.ex {b : List Ins} (h : DeepP b) : exP b ≤ 275 := Int.le_trans (ex_bd (R := 5) (by decide) 2 b h.dp h.po.np h.rp) (Int.ofNat_le.mpr (Nat.mul_le_mul_right _ h.cn))
end DR
/-! ### sorted(xs, key=lambda y: y[k]): a lambda with a parameter, made and called -/
namespace DR
open PySem PySem.Spec PyProof.Rows L2 LamX
section
variable {prog : Program} {w : World} {A : Around} {s : Shared}
/-- the key's lambda called with a tuple that has a text at k -/
theorem key_item {f c' t : Addr} {q y z : Str} {params : Arguments} {scope : Scope} {p1 p2 p3 : Pos} {k kd : Nat} {pm ctv : Value} {items : Array Value} {tk : Tok}
    (ho : s.heap.get? f = some (PySem.W.kla_obj "<lambda>" q params (.Subscript (.Name y p1) (.Constant (.int (k : Int)) kd p2) p3) scope [] pm c' ctv)) (hc : s.heap.CodeRec (.ref c') q) (hr : A.depth < recursionLimit) (lim : s.heap.NoLimit)
    (hb : ∀ v, bindArgs (PySem.W.kla_fn "<lambda>" q params (.Subscript (.Name y p1) (.Constant (.int (k : Int)) kd p2) p3) scope [] pm (.ref c') ctv) ⟨[v], []⟩ = pure [(y, v)])
    (hk : scope.kind = .function) (hco : scope.isCoroutine = false) (hgen : scope.isGenerator = false) (hcell : ∀ x ∈ scope.names, x.2 ≠ .cell) (hl : scope.names.lookup y = some .local)
    (ht : IsTup s.heap t items) (hsz : items.size < 2 ^ 60) (hx : items[k]? = some (.str z tk)) (hd : (y == ("__debug__" : Str)) = false := by decide) (hcd : (y == ("__classdict__" : Str)) = false := by decide) :
    wpAny (model prog w) A (call (.ref f) [.ref t]) (PySem.W.KeyPure (.str z) s) (fun _ _ => False) s := by
  have hlt : k < items.size := (Array.getElem?_eq_some_iff.mp hx).1
  refine wpAny_call (PySem.W.kla_callFunE hr ho rfl hco hgen rfl hc ?_)
  rw [hb]
  refine wpAny_pure (wpAny_newFunctionEnv hcell (fun x hx => by
    obtain rfl := List.mem_singleton.mp hx
    exact hl) (fun h₁ hns hsb => ⟨lim.fresh _ hsb, ?_⟩) hk)
  have kp : ∀ b o, s.heap.get? b = some o → h₁.get? b = some o := fun b o e => hsb.extBut b o (Nat.ne_of_lt (Heap.lt_size e)) (Heap.get?_push_of_some _ e)
  refine PySem.W.kla_codeExpr (wpAny_Subscript_Constant_late (wpAny_Name (wpAny_loadName_local (m := fun x => ([(y, Value.ref t)] : List (Str × Value)).reverse.lookup x) (v := .ref t) hk ?_ hns ?_ (wpAny_Constant_int ?_)) hd))
  · exact hl
  · simp
  · have ht1 : IsTup h₁ t items := ht.keeps kp
    refine ⟨"tuple", _, slot_tuple_getitem.lookup, IsTup.typeIs ht1, getItem_tuple (j := k) ht1 (by omega) (by omega) ?_ hx ?_⟩
    · unfold seqIndex?
      simp only [show ¬ ((k : Int) < 0) from by omega, if_false, Int.toNat_natCast]
      rw [if_pos (by simp; omega)]
    · exact ⟨h₁, _, rfl, kp, .str _ _⟩
end
def tSortI (K : PySem.W.Frag) (T : List (Addr × Str)) (k : Nat) (te : TE) : TE := fun σ H Q => te σ H fun v H1 => ∃ (a : Addr) (xs : List V) (z : V → Str), v = .ref a ∧ SqL K H1 a xs ∧
  (∀ x ∈ xs, ∃ t ys, x = .ref t ∧ SqT K H1 t ys ∧ ys[k]? = some (.str (z x))) ∧ Tabs T H1 ∧ ∀ H2 p ys, ExtN H1 H2 → Tabs T H2 → H2 p = none → ys.Perm xs → (∀ n : Str, (ys.filter fun x => decide (z x = n)) = xs.filter fun x => decide (z x = n)) → Q (.ref p) (upd H2 p (.lst ys))
section
variable {X : Cx}
theorem rd_ext {H H' : Hp} {a : Addr} {u : HO} (e : ExtN H H') (h : L2.Rd H a u) (n : ∀ ps, u ≠ .tbl ps) : L2.Rd H' a u :=
  h.imp (fun q => e _ _ q n) fun ⟨o, q⟩ => ⟨o, e _ _ q fun _ z => nomatch z⟩
theorem sqL_ext {K : PySem.W.Frag} {H H' : Hp} {a : Addr} {xs : List V} (e : ExtN H H') (h : SqL K H a xs) : SqL K H' a xs := h.imp (fun q => rd_ext e q fun _ z => nomatch z) id
theorem sqT_ext {K : PySem.W.Frag} {H H' : Hp} {a : Addr} {xs : List V} (e : ExtN H H') (h : SqT K H a xs) : SqT K H' a xs := h.imp (fun q => rd_ext e q fun _ z => nomatch z) id
theorem vals_each : ∀ {xs : List V} {us : List Value}, Vals xs us → PySem.W.EachIs (fun u x => RelV x u) us xs
  | [], _, h => by
    cases h
    exact .nil
  | _ :: _, _, h => by
    cases h with
    | cons h t => exact .cons h (vals_each t)
theorem each_vals : ∀ {us : List Value} {xs : List V}, PySem.W.EachIs (fun u x => RelV x u) us xs → Vals xs us
  | [], _, h => by
    cases h
    exact .nil
  | _ :: _, _, h => by
    cases h with
    | cons h t => exact .cons h (each_vals t)
/-- what has one key keeps its order -/
theorem sort_keeps (z : V → Str) (n : Str) (xs : List V) : ((xs.mergeSort (PySem.W.dataLe false fun x => .str (z x))).filter fun x => decide (z x = n)) = xs.filter fun x => decide (z x = n) := by
  have sub : (xs.filter fun x => decide (z x = n)).Sublist (xs.mergeSort (PySem.W.dataLe false fun x => .str (z x))) := by
    rw [PySem.W.dataLe_str]
    refine List.sublist_mergeSort (fun a b c h1 h2 => ?_) (fun a b => ?_) ?_ List.filter_sublist
    · exact decide_eq_true (List.le_trans (of_decide_eq_true h1) (of_decide_eq_true h2))
    · rcases List.le_total (z a).cps.toList (z b).cps.toList with h | h
      · rw [decide_eq_true h, Bool.true_or]
      · rw [decide_eq_true h, Bool.or_true]
    · refine List.pairwise_of_forall_mem_list fun a ha b hb => ?_
      have h1 := of_decide_eq_true (List.mem_filter.mp ha).2
      have h2 := of_decide_eq_true (List.mem_filter.mp hb).2
      rw [h1, h2]
      exact decide_eq_true (List.le_refl _)
  have sub2 := sub.filter fun x => decide (z x = n)
  rw [List.filter_filter] at sub2
  simp only [Bool.and_self] at sub2
  exact (sub2.eq_of_length (((List.mergeSort_perm xs _).filter _).length_eq.symm)).symm
theorem pe_sortI {T : List (Addr × Str)} {c P : Addr} {te : TE} {e : Expr} {y : Str} {params : Arguments} {scope : Scope} {k kd : Nat} {p lpos kpos pos p1 p2 p3 : Pos} (hg : Gl X "sorted") (hm : X.mg "sorted" = none) (he : PE X e te)
    (TB : TabB X.base X.mg c P) (hcode : X.env.code = .ref c) (hmT : (P, X.env.qual ++ "<lambda>") ∈ T) (hu : ∀ p ∈ T, p.1 = P → p.2 = X.env.qual ++ "<lambda>") (hr : Room 1 X.A) (hdef : defaultsOf params X.env = ([], [])) (hcl : ∀ cells, cloFrom cells scope.names [] = [])
    (hfree : ∀ y ∈ scope.names, y.2 ≠ .free)
    (hb : ∀ (q : Str) (pm cv ctv v : Value), bindArgs (PySem.W.kla_fn "<lambda>" q params (.Subscript (.Name y p1) (.Constant (.int (k : Int)) kd p2) p3) scope [] pm cv ctv) ⟨[v], []⟩ = pure [(y, v)])
    (hk : scope.kind = .function) (hco : scope.isCoroutine = false) (hgen : scope.isGenerator = false) (hcell : ∀ x ∈ scope.names, x.2 ≠ .cell) (hl : scope.names.lookup y = some .local)
    (hea : backTo pos (starEach [e] X.env) = [(false, eval e X.env)] := by rfl) (hd : (y == ("__debug__" : Str)) = false := by decide) (hcd : (y == ("__classdict__" : Str)) = false := by decide) :
    PE X (.Call (.Name "sorted" p) [e] [⟨some "key", .Lambda params (.Subscript (.Name y p1) (.Constant (.int (k : Int)) kd p2) p3) scope lpos, kpos⟩] pos) (tSortI X.K T k te) := by
  refine ⟨fun pins s σ H Q I h => ?_⟩
  refine wpAny_Call_Name_kw (ld_blt I hg hm (u := .builtin "sorted") rfl ?_ (by decide) (by decide))
  refine PyProof.Rows.callWith_kw ?_ hea (by rw [hea]; rfl) rfl rfl
  rw [hea]
  refine Calls.spliced_cons (thn (he.run pins s σ H _ I h) fun u s1 ⟨v, H1, I1, r1, q1⟩ => Calls.spliced_nil ?_)
  obtain ⟨a, xs, z, rfl, hs1, hz, hT, q⟩ := q1
  obtain rfl : u = .ref a := r1
  show wpAny _ _ (evalAll [(do let v ← eval (.Lambda params (.Subscript (.Name y p1) (.Constant (.int (k : Int)) kd p2) p3) scope lpos) X.env; standAt pos; pure v)]) _ _ s1
  refine wpAny_evalAll_cons (wpAny_bind (lam_make2 I1 TB hcode hmT hu hT hdef (fun y hy e => absurd e (hfree y hy)) fun f c' pm ctv H2 s2 I2 eN T2 hf hfn hfr hco2 => wpAny_bind (wpAny_standAt (wpAny_pure (wpAny_evalAll_nil ?_)))))
  rw [hcl] at hf
  have hs2 := sqL_ext eN hs1
  obtain ⟨its, rv, hl', hsz⟩ := I2.list hs2
  have hrc : s2.heap.CodeRec (.ref c') (X.env.qual ++ "<lambda>") := by
    obtain ⟨⟨oc, vs, t, hoc, hdc, hvc⟩, _, _⟩ := I2.hok c' _ hco2
    exact ⟨c', oc, vs, t, rfl, hoc, hdc, hvc⟩
  have hun := hr.un
  refine PySem.W.sorted_key_data (b := false) (fun x : V => .str (z x)) hl'.isList (vals_each rv) (PySem.W.AllAlike.of fun _ _ => by simp [PySem.W.alike, PySem.W.alikeAll]) (PySem.W.Sortable.others fun _ => ⟨(fun z => nomatch z), fun _ z => nomatch z⟩) hsz (fun x _ => ?_) (PyProof.Rows.ksk_s1 _ _) (fun _ => PyProof.Rows.ksk_l1 _ _) (fun _ => PyProof.Rows.ksk_t1 _ _)
    (fun u x ru hx h tk kp => ?_) fun out c h' tk kp fr hp hlen eo => ?_
  · show X.A.units + 2 + (PyData.str (z x)).depth < cLine
    simp only [PyData.depth]
    omega
  · obtain ⟨t, ys, rfl, ht, hyk⟩ := hz x hx
    obtain rfl : u = .ref t := ru
    obtain ⟨its2, r2, pl, hz2⟩ := I2.tuple (sqT_ext eN ht)
    obtain ⟨w', ew, rw'⟩ := r2.get hyk
    obtain ⟨tkz, rfl⟩ := rw'
    have hl2 := r2.length
    have h60 : sizeLine < 2 ^ 60 := by rw [sizeLine_eq]; decide
    refine key_item (s := { s2 with heap := h, toks := tk }) (kp _ _ hf) ?_ (by have := hr.dp; show X.A.depth < _; omega) (I2.nolimit.keeps kp) (hb _ _ _ _) hk hco hgen hcell hl (pl.keeps kp) (by rw [List.size_toArray, ← hl2]; omega) (by simpa using ew) hd hcd
    obtain ⟨c2, oc, vs, t2, e2, hoc, hdc, hvc⟩ := hrc
    exact ⟨c2, oc, vs, t2, e2, kp _ _ hoc, hdc, hvc⟩
  · have hlen2 : (xs.mergeSort (PySem.W.dataLe false fun x : V => .str (z x))).length ≤ sizeLine := by rw [List.length_mergeSort]; exact hsz
    exact ⟨.ref _, upd H2 (s2.heap.objs.size + 1) (.lst (xs.mergeSort (PySem.W.dataLe false fun x : V => .str (z x)))), I2.laid (t' := tk) kp (Nat.le_succ _) ⟨hlen2, _, c, each_vals eo, hp⟩, rfl, q _ _ _ eN T2 (I2.hok.fresh (Nat.le_succ _)) (List.mergeSort_perm _ _) (fun n => sort_keeps z n xs)⟩
end
end DR
/-! ### what is known, carried over the making of a lambda: all but tables stays -/
namespace DR
open PySem PySem.Spec PyProof.Rows L2 LamX
section
variable {K : PySem.W.Frag} {H H' : Hp}
mutual
theorem Dp.ext (e : ExtN H H') : ∀ {v : V} {d : PyData}, Dp K H v d → Dp K H' v d
  | _, _, .non => .non
  | _, _, .bl b => .bl b
  | _, _, .int i => .int i
  | _, _, .str x => .str x
  | _, _, .lst h t => .lst (sqL_ext e h) (DpAll.ext e t)
  | _, _, .tup h t => .tup (sqT_ext e h) (DpAll.ext e t)
theorem DpAll.ext (e : ExtN H H') : ∀ {vs : List V} {ds : List PyData}, DpAll K H vs ds → DpAll K H' vs ds
  | _, _, .nil => .nil
  | _, _, .cons h t => .cons (Dp.ext e h) (DpAll.ext e t)
end
theorem _root_.LamX.ExtN.get (e : ExtN H H') {b : Addr} {o : HO} (h : H b = some o) (n : ∀ ps, o ≠ .tbl ps := by intro _ z; cases z) : H' b = some o := e b o h n
theorem _root_.LamX.ExtN.er (M : Addr → Prop) (e : ExtN H H') : ExtN (erM M H) (erM M H') := fun b o h n => by
  obtain ⟨h1, h2⟩ := erM_at h
  exact erM_of h1 (e b o h2 n)
theorem ActV.ext {v : V} {a : Act} (e : ExtN H H') (h : ActV K H v a) : ActV K H' v a := by
  cases a with
  | enter n pl =>
    obtain ⟨t, e1, z⟩ := h
    exact ⟨t, e1, sqT_ext e z⟩
  | run n d b =>
    obtain ⟨t, u, e1, z, hd, hp⟩ := h
    exact ⟨t, u, e1, sqT_ext e z, Dp.ext e hd, hp⟩
theorem ActVs.ext (e : ExtN H H') : ∀ {xs : List V} {as : List Act}, ActVs K H xs as → ActVs K H' xs as
  | _, _, .nil => .nil
  | _, _, .cons r q => .cons (r.ext e) (ActVs.ext e q)
theorem PenAt.ext {p c : Addr} {n : Nat} (e : ExtN H H') (h : PenAt H p c n) : PenAt H' p c n := by
  obtain ⟨ns, u, l, h1, h2, h3⟩ := h.ex
  exact ⟨ns, u, l, e.get h1, e.get h2, h3⟩
theorem MOk.ext {M : Addr → Prop} {p : Addr} (e : ExtN H H') (m : MOk M p H) : MOk M p H' :=
  ⟨m.pen, fun b h => (m.lists b h).imp id fun z => z.elim fun xs q => ⟨xs, e.get q⟩, m.dict.elim fun _ q => ⟨_, e.get q⟩⟩
theorem RoadAt.ext {C r D T : Addr} {M : Addr → Prop} {q : Int} {as bs : List Act} (e : ExtN H H') (R : RoadAt K C M H r D T q as bs) : RoadAt K C M H' r D T q as bs := by
  obtain ⟨⟨dx, h1⟩, ⟨xs, h2, h3⟩, ⟨ys, h4, h5⟩, mD, mT, nr, ne, r7, r8, r9⟩ := R
  exact ⟨⟨dx, e.get h1⟩, ⟨xs, e.get h2, ActVs.ext (e.er M) h3⟩, ⟨ys, e.get h4, ActVs.ext (e.er M) h5⟩, mD, mT, nr, ne, r7, r8, r9⟩
theorem PV.ext {v : V} {b : List Ins} (e : ExtN H H') (h : PV K H v b) : PV K H' v b := h.elim fun d z => ⟨d, Dp.ext e z.1, z.2⟩
end
end DR
namespace DR
open PySem PySem.Spec PyProof.Rows L2
/-! ### [what a part gives for parts of anything walked], told by the place -/
theorem paired_mk {α β : Type} {R : α → β → Prop} : ∀ {xs : List α} {ys : List β}, xs.length = ys.length → (∀ (i : Nat) (x : α) (y : β), xs[i]? = some x → ys[i]? = some y → R x y) → Paired R xs ys
  | [], [], _, _ => .nil
  | [], _ :: _, h, _ => by cases h
  | _ :: _, [], h, _ => by cases h
  | x :: xs, y :: ys, h, k => .cons (k 0 x y rfl rfl) (paired_mk (Nat.succ.inj h) fun i a b ha hb => k (i + 1) a b (by simpa using ha) (by simpa using hb))
end DR
open L2 PySem PySem.Spec PyProof.Rows
/-! a word of units as a walk: how often it turns at a place, how often it goes over an edge (from e to e + 1) -/
open L2 PySem PySem.Spec PyProof.Rows
/-! what a certificate says of every word of units with that effect -/
namespace DR
/-- a list of triples that lies in the heap by itself -/
def LstT (K : PySem.W.Frag) (H : Hp) (L : Addr) (ts : List Tri) : Prop := ∃ ys, H L = some (.lst ys) ∧ TriVs K H ys ts
theorem LstT.kp {K : PySem.W.Frag} {H H' : Hp} {p c L : Addr} {n : Nat} {ts : List Tri} (pen : PenAt H p c n) (k : Kp p H H') (h : LstT K H L ts) : LstT K H' L ts := by
  obtain ⟨ys, h1, h2⟩ := h
  exact ⟨ys, k _ _ (pen_nl pen h1) h1, TriVs.tp (pen.tp k) h2⟩
theorem TriVs.put {K : PySem.W.Frag} {H : Hp} : ∀ {xs : List V} {ts : List Tri} (j : Nat) {x : V} {t : Tri}, TriVs K H xs ts → TriV K H x t → TriVs K H (xs.set j x) (ts.set j t)
  | _, _, _, _, _, .nil, _ => .nil
  | _, _, 0, _, _, .cons _ q, h => .cons h q
  | _, _, j + 1, _, _, .cons r q, h => .cons r (TriVs.put j q h)
def NearT (ts : List Tri) : Prop := ∀ t ∈ ts, t.1.natAbs < 2 ^ 61 ∧ t.2.1.natAbs < 2 ^ 61
end DR
open L2 PySem PySem.Spec PyProof.Rows
/-! lists of certificates that a law draws (k55) -/
namespace DR
/-- a certificate: a tuple of a list of pairs and a list of triples -/
def CertV (K : PySem.W.Frag) (H : Hp) (x : V) : Prop := ∃ T L1 L2 g ts, x = .ref T ∧ SqT K H T [.ref L1, .ref L2] ∧ LstP K H L1 g ∧ g.length ≤ 1000 ∧ LstT K H L2 ts ∧ ts.length ≤ 1000 ∧ NearT ts
theorem CertV.kp {K : PySem.W.Frag} {p c : Addr} (H H' : Hp) (n : Nat) (x : V) (pen : PenAt H p c n) (k : Kp p H H') (h : CertV K H x) : CertV K H' x := by
  obtain ⟨T, L1, L2, g, ts, e, hT, h1, l1, h2, l2, nr⟩ := h
  exact ⟨T, L1, L2, g, ts, e, tp_t (pen.tp k) hT, h1.kp pen k, l1, h2.kp pen k, l2, nr⟩
/-- the way there and back that a law adds to a word: it leaves nothing -/
def there : List Ins := [.step 1, .turn 1, .step (-1)]
def back : List Ins := [.step 1, .turn (-1), .step (-1)]
end DR
/-! ### == and != of instances by their class's own method, whatever it answers -/
/-! ### the text of a dict of places -/
namespace DR
open PySem PySem.Spec PyProof.Rows L2
/-! sorted names are told by what they are -/
/-! dials far away -/
theorem dl_out {as : List Act} (h : Lgl as) (few : as.length ≤ 1000) (i : Nat) : ∀ k, k ≤ as.length → ∀ x : Int, 2 ^ 339 < x.natAbs → dlT i as k x = 0
  | 0, _, x, _ => rfl
  | k + 1, hk, x, hx => by
    show dlT i as k x + dlC i as k x = 0
    rw [dl_out h few i k (by omega) x hx, Int.zero_add]
    cases e : as[k]? with
    | none =>
      unfold dlC
      rw [e]
    | some a =>
      cases a with
      | enter n pl =>
        unfold dlC
        rw [e]
      | run n d b =>
        have ok := h k _ e
        obtain ⟨z, hz⟩ := ok.1
        have far := h.far (j := k) (by omega) few _ (gS_mem hz)
        have far : z.natAbs ≤ 2 ^ 318 := far
        have tr := ok.2.1.tr
        have big : (2 : Nat) ^ 318 + 2 ^ 306 ≤ 2 ^ 339 := by decide +kernel
        have c : (2 : Int) ^ 306 = ((2 ^ 306 : Nat) : Int) := by decide +kernel
        rw [c] at tr
        generalize (2 : Nat) ^ 318 = A at far big
        generalize (2 : Nat) ^ 306 = B at tr big
        generalize (2 : Nat) ^ 339 = D at hx big
        unfold dlC
        rw [e]
        show (if i ≤ k then seP b (x - (gS (stO (as.take k)) n).getD 0) else 0) = 0
        rw [hz]
        split
        · exact seP_far b _ ok.2.1.np (by show trP b < (x - z).natAbs; omega)
        · rfl
theorem nf_near {q : Int} {m : Pol} {as : List Act} {k : Nat} (h : Lgl as) (few : as.length ≤ 1000) (hk : k ≤ as.length) (nf : Nf q m (fun x => dlT 0 as k x)) : ∀ t ∈ m, t.1.natAbs ≤ 2 ^ 340 := fun t ht => by
  by_cases far : 2 ^ 339 < t.1.natAbs
  · have e1 := cf_mem nf.asc t ht
    have e2 := nf.cof t.1
    have e3 : dlT 0 as k t.1 = 0 := dl_out h few 0 k hk t.1 far
    have r := nf.rng t ht
    have e2 : cf m t.1 = dlT 0 as k t.1 % q := e2
    rw [e1, e3, Int.zero_emod] at e2
    omega
  · have c : (2 : Nat) ^ 339 ≤ 2 ^ 340 := by decide +kernel
    omega
/-! places, as text -/
end DR
/-! ### copies that are spoiled -/
namespace DR
open PySem PySem.Spec PyProof.Rows L2
/-- a program that stands in G by itself, so deep at most, of N rows at most -/
def PX (K : PySem.W.Frag) (G : Hp) (N : Nat) : Nat → V → Prop
  | 0, _ => False
  | k + 1, v => ∃ a xs, v = .ref a ∧ (G a = some (.lst xs) ∨ G a = some (.tup xs)) ∧ xs.length ≤ N ∧
    ∀ x ∈ xs, ∃ t, x = .ref t ∧ ((∃ (w : Str) (n : Int), w ≠ "repeat" ∧ SqT K G t [.str w, .int n]) ∨ ∃ (n : Int) (y : V), SqT K G t [.str "repeat", .int n, y] ∧ PX K G N k y)
/-- one row of it -/
def PXr (K : PySem.W.Frag) (G : Hp) (N k : Nat) (x : V) : Prop := ∃ t, x = .ref t ∧ ((∃ (w : Str) (n : Int), w ≠ "repeat" ∧ SqT K G t [.str w, .int n]) ∨ ∃ (n : Int) (y : V), SqT K G t [.str "repeat", .int n, y] ∧ PX K G N k y)
theorem PX.same {K : PySem.W.Frag} {G G' : Hp} {N : Nat} (s : Same G G') : ∀ {k : Nat} {v : V}, PX K G N k v → PX K G' N k v
  | k + 1, v, ⟨a, xs, e, h, l, r⟩ => ⟨a, xs, e, h.imp (s _ _) (s _ _), l, fun x hx => by
    obtain ⟨t, et, z⟩ := r x hx
    exact ⟨t, et, z.imp (fun ⟨w, n, q, y⟩ => ⟨w, n, q, same_t s y⟩) fun ⟨n, y, q, z⟩ => ⟨n, y, same_t s q, PX.same s z⟩⟩⟩
theorem PXr.same {K : PySem.W.Frag} {G G' : Hp} {N k : Nat} {x : V} (s : Same G G') (h : PXr K G N k x) : PXr K G' N k x := by
  obtain ⟨t, et, z⟩ := h
  exact ⟨t, et, z.imp (fun ⟨w, n, q, y⟩ => ⟨w, n, q, same_t s y⟩) fun ⟨n, y, q, z⟩ => ⟨n, y, same_t s q, PX.same s z⟩⟩
theorem PX.up {K : PySem.W.Frag} {G : Hp} {N : Nat} : ∀ {k : Nat} {v : V}, PX K G N k v → PX K G N (k + 1) v
  | k + 1, v, ⟨a, xs, e, h, l, r⟩ => ⟨a, xs, e, h, l, fun x hx => by
    obtain ⟨t, et, z⟩ := r x hx
    exact ⟨t, et, z.imp id fun ⟨n, y, q, z⟩ => ⟨n, y, q, PX.up z⟩⟩⟩
/-- an action whose program stands by itself -/
def PXa (K : PySem.W.Frag) (G : Hp) (N : Nat) (y : V) : Prop := ∃ t, y = .ref t ∧ ((∃ (n : Str) (pl : Int), SqT K G t [.str "enter", .str n, .int pl]) ∨ ∃ (n : Str) (u : V), SqT K G t [.str "run", .str n, u] ∧ PX K G N 3 u)
theorem PXa.same {K : PySem.W.Frag} {G G' : Hp} {N : Nat} {y : V} (s : Same G G') (h : PXa K G N y) : PXa K G' N y := by
  obtain ⟨t, e, z⟩ := h
  exact ⟨t, e, z.imp (fun ⟨n, pl, q⟩ => ⟨n, pl, same_t s q⟩) fun ⟨n, u, q, x⟩ => ⟨n, u, same_t s q, x.same s⟩⟩
/-- G's lists stand there, with turns behind them -/
structure Grw (K : PySem.W.Frag) (G H : Hp) (c : Nat) : Prop where
  ls : ∀ a xs, G a = some (.lst xs) → ∃ ts, H a = some (.lst (xs ++ ts)) ∧ ts.length ≤ c ∧ ∀ t ∈ ts, ∃ u, t = .ref u ∧ SqT K H u [.str "turn", .int 1]
  tp : Tp G H
/-- all but G's lists stays -/
def KpG (G H H' : Hp) : Prop := ∀ b o, (∀ xs, G b ≠ some (.lst xs)) → H b = some o → H' b = some o
theorem KpG.refl (G H : Hp) : KpG G H H := fun _ _ _ e => e
theorem KpG.trans {G H H1 H2 : Hp} (a : KpG G H H1) (b : KpG G H1 H2) : KpG G H H2 := fun c o n e => b c o n (a c o n e)
theorem Grw.up {K : PySem.W.Frag} {G H : Hp} {c d : Nat} (g : Grw K G H c) (h : c ≤ d) : Grw K G H d := ⟨fun a xs e => by
  obtain ⟨ts, q, l, r⟩ := g.ls a xs e
  exact ⟨ts, q, Nat.le_trans l h, r⟩, g.tp⟩
theorem PX.le {K : PySem.W.Frag} {G : Hp} {N m n : Nat} {v : V} (h : m ≤ n) (p : PX K G N m v) : PX K G N n v := by
  induction h with
  | refl => exact p
  | step _ ih => exact ih.up
theorem Grw.same {K : PySem.W.Frag} {G H H' : Hp} {c : Nat} (g : Grw K G H c) (s : Same H H') : Grw K G H' c := ⟨fun a xs e => by
  obtain ⟨ts, q, l, r⟩ := g.ls a xs e
  exact ⟨ts, s _ _ q, l, fun t ht => by
    obtain ⟨u, e, z⟩ := r t ht
    exact ⟨u, e, same_t s z⟩⟩, g.tp.trans (Same.tp s)⟩
end DR
/-! ### roads as texts -/
namespace DR
open PySem PySem.Spec PyProof.Rows L2 TL
/-- an action whose program is a list all the way down -/
def lsA : Act → Act
  | .enter n pl => .enter n pl
  | .run n _ b => .run n (.list (ldA b)) b
theorem names_ls : ∀ as : List Act, namesOf (as.map lsA) = namesOf as
  | [] => rfl
  | .enter n pl :: r => by
    have ih := names_ls r
    unfold namesOf at ih ⊢
    rw [List.map_cons, List.filterMap_cons, List.filterMap_cons, ih]
    rfl
  | .run n d b :: r => by
    have ih := names_ls r
    unfold namesOf at ih ⊢
    rw [List.map_cons, List.filterMap_cons, List.filterMap_cons, ih]
    rfl
/-! what all actions of a history are -/
def OkA : Act → Prop
  | .enter n pl => nameOk n = true ∧ pl.natAbs ≤ 10 ^ 30
  | .run n d b => nameOk n = true ∧ ProgOk b ∧ IsP d b
/-! ### lines -/
theorem name_tl {n : Str} (h : nameOk n = true) : (∀ c ∈ tl n, 97 ≤ c ∧ c ≤ 122) ∧ tl n ≠ [] ∧ n.length ≤ 8 := by
  unfold nameOk at h
  rw [Bool.and_eq_true, decide_eq_true_iff, decide_eq_true_iff] at h
  refine ⟨h.2, fun z => ?_, h.1.2⟩
  have := h.1.1
  rw [len_tl, z] at this
  exact absurd this (by decide)
/-! ### comparing histories -/
/-! ### what the defs of texts promise -/
/-- what may change, and two lists more -/
def MAdd (M : Addr → Prop) (D T : Addr) : Addr → Prop := fun b => M b ∨ b = D ∨ b = T
theorem OkA.few {a : Act} (h : OkA a) : ∀ n d b, a = .run n d b → dpP b < 3 ∧ cnP b ≤ 1000 := fun n d b e => by
  subst e
  exact ⟨h.2.1.dp, Nat.le_trans h.2.1.cn (by decide)⟩
theorem OkA.name {n : Str} {d : PyData} {b : List Ins} (h : OkA (.run n d b)) : n.length ≤ 8 := (name_tl h.1).2.2
/-- a tuple of numbers that stands in the module -/
def TupG (K : PySem.W.Frag) (a : Addr) (ns : List Int) : Prop := ∃ (o : Obj) (its : Array Value) (n : Nat), K.lookup a = some o ∧ o.cls = .type "tuple" ∧ o.data = .seq its n ∧ its.size ≤ sizeLine ∧ Vals (ns.map V.int) its.toList
theorem TupG.sq {K : PySem.W.Frag} {a : Addr} {ns : List Int} (h : TupG K a ns) (H : Hp) : SqT K H a (ns.map V.int) := .inr h
theorem ActOk.ls {as : List Act} {a : Act} (h : ActOk as a) : ActOk (as.map lsA) a := by
  cases a with
  | enter n pl => exact ⟨h.1, by rw [names_ls]; exact h.2.1, h.2.2⟩
  | run n d b => exact ⟨by rw [names_ls]; exact h.1, h.2⟩
theorem MAdd.mok {M : Addr → Prop} {p D T : Addr} {H H' : Hp} {xs ys : List V} (m : MOk M p H) (s : Same H H') (hD : H' D = some (.lst xs)) (hT : H' T = some (.lst ys)) : MOk (MAdd M D T) p H' := by
  have m2 := m.same s
  refine ⟨.inl m2.pen, fun b h => ?_, m2.dict⟩
  rcases h with h | h | h
  · exact m2.lists b h
  · exact .inr ⟨xs, by rw [h]; exact hD⟩
  · exact .inr ⟨ys, by rw [h]; exact hT⟩
theorem MAdd.made {K : PySem.W.Frag} {C p r D T dx : Addr} {M : Addr → Prop} {H H' : Hp} {q : Int} (m : MOk M p H) (nr : H r = none) (ne : D ≠ T) (e : H' r = some (.ins C dx (roF q D T))) (hD : H' D = some (.lst [])) (hT : H' T = some (.lst [])) : RoadAt K C (MAdd M D T) H' r D T q [] [] := by
  refine ⟨⟨dx, e⟩, ⟨[], hD, .nil⟩, ⟨[], hT, .nil⟩, .inr (.inl rfl), .inr (.inr rfl), fun z => ?_, ne, Nat.zero_le _, Nat.zero_le _, Lgl.nil⟩
  rcases z with z | z | z
  · exact m.there z nr
  · rw [z, hD] at e
    cases e
  · rw [z, hT] at e
    cases e
/-- what stands in a heap stays while lists change that are not there -/
theorem Same.own {D T : Addr} {H H1 H2 : Hp} (s : Same H H1) (k : Kst (Own2 D T) H1 H2) (nD : H D = none) (nT : H T = none) : Same H H2 := fun b o e =>
  k b o (fun z => z.elim (fun y => by rw [y, nD] at e; cases e) fun y => by rw [y, nT] at e; cases e) (s b o e)
end DR
/-! ### enumerate(xs, start=1) in a for -/
/-! ### what a road shows, as a text -/
namespace DR
open PySem PySem.Spec PyProof.Rows L2
/-! ### actions that grow in a list beside what may change -/
structure ActsM (P : List Ins → Prop) (K : PySem.W.Frag) (M : Addr → Prop) (p c : Addr) (n : Nat) (H : Hp) (D T : Addr) (as : List Act) (ks : List Str) : Prop where
  pen : PenAt H p c n
  ls : ∃ xs, H D = some (.lst xs) ∧ ActVs K (erM M H) xs as
  kn : H T = some (.lst (ks.map V.str))
  ne : D ≠ T
  np : D ≠ p ∧ T ≠ p
  nc : D ≠ c ∧ T ≠ c
  tk : Taken as
  nr : ∀ n d b, Act.run n d b ∈ as → P b
  mok : MOk M p H
  mD : M D
  mT : M T
theorem MOk.kpm {M : Addr → Prop} {p : Addr} {H H' : Hp} (m : MOk M p H) (k : Kp p H H') (d : ∃ kvs, H' p = some (.dK kvs)) : MOk M p H' := by
  refine ⟨m.pen, fun b h => ?_, d⟩
  by_cases z : b = p
  · exact .inl z
  · exact .inr ((m.lists b h).elim (fun e => absurd e z) fun q => q.elim fun xs e => ⟨xs, k _ _ z e⟩)
theorem MOk.put {M : Addr → Prop} {p D : Addr} {H : Hp} {xs ys : List V} (m : MOk M p H) (hD : H D = some (.lst xs)) : MOk M p (upd H D (.lst ys)) := by
  obtain ⟨kvs, hp⟩ := m.dict
  have n1 : D ≠ p := fun z => by
    rw [z, hp] at hD
    cases hD
  refine ⟨m.pen, fun b h => ?_, kvs, by rw [upd_ne n1.symm]; exact hp⟩
  by_cases z : b = D
  · exact .inr ⟨ys, by rw [z]; exact upd_same⟩
  · exact (m.lists b h).imp id fun q => q.elim fun us e => ⟨us, by rw [upd_ne z]; exact e⟩
section
variable {P : List Ins → Prop} {K : PySem.W.Frag} {M : Addr → Prop} {p c D T : Addr} {n m : Nat} {H H' : Hp} {as : List Act} {ks : List Str}
theorem ActsM.kp (R : ActsM P K M p c n H D T as ks) (k : Kp p H H') (pen : PenAt H' p c m) : ActsM P K M p c m H' D T as ks := by
  obtain ⟨xs, hD, hA⟩ := R.ls
  exact ⟨pen, ⟨xs, k _ _ R.np.1 hD, hA.same (k.ks R.mok.pen).er⟩, k _ _ R.np.2 R.kn, R.ne, R.np, R.nc, R.tk, R.nr, R.mok.kpm k pen.dk, R.mD, R.mT⟩
theorem ActsM.same (R : ActsM P K M p c n H D T as ks) (s : Same H H') : ActsM P K M p c n H' D T as ks := R.kp (Same.kp s) (R.pen.same s)
theorem ActsM.mono (R : ActsM P K M p c n H D T as ks) (h : n ≤ m) : ActsM P K M p c m H D T as ks := ⟨R.pen.mono h, R.ls, R.kn, R.ne, R.np, R.nc, R.tk, R.nr, R.mok, R.mD, R.mT⟩
theorem ActsM.name (R : ActsM P K M p c n H D T as ks) (z : Str) : ActsM P K M p c n (upd H T (.lst (ks.map V.str ++ [.str z]))) D T as (ks ++ [z]) := by
  obtain ⟨ys, hD, hA⟩ := R.ls
  have k : Kst M H (upd H T (.lst (ks.map V.str ++ [.str z]))) := (Kst.refl _ _).upd R.mT
  exact ⟨R.pen.upd R.np.2 R.nc.2, ⟨ys, by rw [upd_ne R.ne]; exact hD, hA.same k.er⟩, by rw [upd_same, List.map_append]; rfl, R.ne, R.np, R.nc, R.tk, R.nr, R.mok.put R.kn, R.mD, R.mT⟩
theorem ActsM.fresh (R : ActsM P K M p c n H D T as ks) (k : Kp p H H') (pen : PenAt H' p c m) {v : V} {b : List Ins} (h : PV K (er H H') v b) : ∃ d, Dp K (erM M H') v d ∧ IsP d b := by
  obtain ⟨d, hd, hp⟩ := h
  obtain ⟨kvs, e⟩ := pen.dk
  exact ⟨d, R.mok.data e hd, hp⟩
end
end DR
/-! ### a road, and another one loaded from its text (k98) -/
namespace DR
open PySem PySem.Spec PyProof.Rows L2 TL
theorem RoadAt.wide {K : PySem.W.Frag} {C r D T D2 T2 : Addr} {M : Addr → Prop} {H H' : Hp} {q : Int} {as bs : List Act} (R : RoadAt K C M H r D T q as bs) (s : Same H H') (nD : H D2 = none) (nT : H T2 = none) : RoadAt K C (MAdd M D2 T2) H' r D T q as bs := by
  obtain ⟨dx, e⟩ := R.ob
  obtain ⟨xs, e1, a1⟩ := R.dn
  obtain ⟨ys, e2, a2⟩ := R.tb
  have up : Same (erM M H) (erM (MAdd M D2 T2) H') := fun b o z => by
    obtain ⟨z1, z2⟩ := erM_at z
    refine erM_of (fun y => ?_) (s _ _ z2)
    rcases y with y | y | y
    · exact z1 y
    · rw [y, nD] at z2
      cases z2
    · rw [y, nT] at z2
      cases z2
  refine ⟨⟨dx, s _ _ e⟩, ⟨xs, s _ _ e1, a1.same up⟩, ⟨ys, s _ _ e2, a2.same up⟩, .inl R.mD, .inl R.mT, fun y => ?_, R.ne, R.fewA, R.fewB, R.lg⟩
  rcases y with y | y | y
  · exact R.nr y
  · rw [y, nD] at e
    cases e
  · rw [y, nT] at e
    cases e
/-- a law's pen, its names, and its road -/
structure L98 (K : PySem.W.Frag) (C p c : Addr) (n : Nat) (M : Addr → Prop) (H : Hp) (N : Addr) (ns : List Str) (r D T : Addr) (q : Int) (as bs : List Act) : Prop where
  pen : PenAt H p c n
  road : RoadAt K C M H r D T q as bs
  mok : MOk M p H
  nm : erM M H N = some (.lst (ns.map V.str))
  cell : ¬ M c
section
variable {K : PySem.W.Frag} {C p c N r D T r2 D2 T2 : Addr} {n m : Nat} {M : Addr → Prop} {H H' : Hp} {ns : List Str} {q : Int} {as bs as' bs' cs es cs' es' : List Act}
theorem L98.kp (L : L98 K C p c n M H N ns r D T q as bs) (k : Kp p H H') (pen : PenAt H' p c m) : L98 K C p c m M H' N ns r D T q as bs :=
  ⟨pen, L.road.kp L.mok k, L.mok.kpm k pen.dk, (k.ks L.mok.pen).er _ _ L.nm, L.cell⟩
theorem L98.same (L : L98 K C p c n M H N ns r D T q as bs) (s : Same H H') : L98 K C p c n M H' N ns r D T q as bs := L.kp (Same.kp s) (L.pen.same s)
theorem L98.mono (L : L98 K C p c n M H N ns r D T q as bs) (h : n ≤ m) : L98 K C p c m M H N ns r D T q as bs := ⟨L.pen.mono h, L.road, L.mok, L.nm, L.cell⟩
theorem pen_own (pen : PenAt H p c n) (mok : MOk M p H) (cell : ¬ M c) (k : Kst (Own2 D T) H H') (R : RoadAt K C M H r D T q as bs) : PenAt H' p c n := by
  obtain ⟨zs, x, y, hp, hc, h0, h9⟩ := pen.ex
  obtain ⟨_, hD, _⟩ := R.dn
  obtain ⟨_, hT, _⟩ := R.tb
  have n1 := ne_of hp hD (by intro z; cases z)
  have n2 := ne_of hp hT (by intro z; cases z)
  exact ⟨zs, x, y, k _ _ (fun z => z.elim n1 n2) hp, k _ _ (fun z => cell (z.elim (fun e => e ▸ R.mD) fun e => e ▸ R.mT)) hc, h0, h9⟩
theorem own_sub (R : RoadAt K C M H r D T q as bs) : ∀ b, Own2 D T b → M b := fun b z => z.elim (fun e => e ▸ R.mD) fun e => e ▸ R.mT
theorem L98.own (L : L98 K C p c n M H N ns r D T q as bs) (k : Kst (Own2 D T) H H') (mok : MOk M p H') (R : RoadAt K C M H' r D T q as' bs') : L98 K C p c n M H' N ns r D T q as' bs' :=
  ⟨pen_own L.pen L.mok L.cell k L.road, R, mok, (k.sub (own_sub L.road)).er _ _ L.nm, L.cell⟩
/-- .. and a second road -/
structure L98b (K : PySem.W.Frag) (C p c : Addr) (n : Nat) (M : Addr → Prop) (H : Hp) (N : Addr) (ns : List Str) (r D T : Addr) (q : Int) (as bs : List Act) (r2 D2 T2 : Addr) (cs es : List Act) : Prop where
  l : L98 K C p c n M H N ns r D T q as bs
  two : RoadAt K C M H r2 D2 T2 q cs es
  ap : (D ≠ D2 ∧ D ≠ T2) ∧ T ≠ D2 ∧ T ≠ T2
theorem L98.load (L : L98 K C p c n M H N ns r D T q as bs) (s : Same H H') (nD : H D2 = none) (nT : H T2 = none) (mok : MOk (MAdd M D2 T2) p H') (R2 : RoadAt K C (MAdd M D2 T2) H' r2 D2 T2 q cs es) : L98b K C p c n (MAdd M D2 T2) H' N ns r D T q as bs r2 D2 T2 cs es := by
  obtain ⟨zs, x, y, hp, hc, _⟩ := L.pen.ex
  obtain ⟨_, hD, _⟩ := L.road.dn
  obtain ⟨_, hT, _⟩ := L.road.tb
  have gone : ∀ {b : Addr} {o : HO}, H b = some o → b ≠ D2 ∧ b ≠ T2 := fun e => ⟨fun z => (by rw [z, nD] at e; cases e), fun z => (by rw [z, nT] at e; cases e)⟩
  obtain ⟨n1, n2⟩ := erM_at L.nm
  refine ⟨⟨L.pen.same s, L.road.wide s nD nT, mok, erM_of (fun z => ?_) (s _ _ n2), fun z => ?_⟩, R2, gone hD, gone hT⟩
  · rcases z with z | z | z
    · exact n1 z
    · exact (gone n2).1 z
    · exact (gone n2).2 z
  · rcases z with z | z | z
    · exact L.cell z
    · exact (gone hc).1 z
    · exact (gone hc).2 z
theorem L98b.kp (L : L98b K C p c n M H N ns r D T q as bs r2 D2 T2 cs es) (k : Kp p H H') (pen : PenAt H' p c m) : L98b K C p c m M H' N ns r D T q as bs r2 D2 T2 cs es := ⟨L.l.kp k pen, L.two.kp L.l.mok k, L.ap⟩
theorem L98b.same (L : L98b K C p c n M H N ns r D T q as bs r2 D2 T2 cs es) (s : Same H H') : L98b K C p c n M H' N ns r D T q as bs r2 D2 T2 cs es := L.kp (Same.kp s) (L.l.pen.same s)
theorem L98b.mono (L : L98b K C p c n M H N ns r D T q as bs r2 D2 T2 cs es) (h : n ≤ m) : L98b K C p c m M H N ns r D T q as bs r2 D2 T2 cs es := ⟨L.l.mono h, L.two, L.ap⟩
theorem keep_eq {E G : Addr} (k : Kst (Own2 E G) H H') {b : Addr} {o : HO} (e : H b = some o) (h : b ≠ E ∧ b ≠ G) : H' b = H b := (k b o (fun z => z.elim h.1 h.2) e).trans e.symm
theorem L98b.one (L : L98b K C p c n M H N ns r D T q as bs r2 D2 T2 cs es) (k : Kst (Own2 D T) H H') (mok : MOk M p H') (R : RoadAt K C M H' r D T q as' bs') : L98b K C p c n M H' N ns r D T q as' bs' r2 D2 T2 cs es := by
  obtain ⟨_, hD, _⟩ := L.two.dn
  obtain ⟨_, hT, _⟩ := L.two.tb
  exact ⟨L.l.own k mok R, L.two.keep (k.sub (own_sub L.l.road)) (keep_eq k hD ⟨L.ap.1.1.symm, L.ap.2.1.symm⟩) (keep_eq k hT ⟨L.ap.1.2.symm, L.ap.2.2.symm⟩), L.ap⟩
theorem L98b.other (L : L98b K C p c n M H N ns r D T q as bs r2 D2 T2 cs es) (k : Kst (Own2 D2 T2) H H') (mok : MOk M p H') (R : RoadAt K C M H' r2 D2 T2 q cs' es') : L98b K C p c n M H' N ns r D T q as bs r2 D2 T2 cs' es' := by
  obtain ⟨_, hD, _⟩ := L.l.road.dn
  obtain ⟨_, hT, _⟩ := L.l.road.tb
  have kM := k.sub (own_sub L.two)
  exact ⟨⟨pen_own L.l.pen L.l.mok L.l.cell k L.two, L.l.road.keep kM (keep_eq k hD L.ap.1) (keep_eq k hT L.ap.2), mok, kM.er _ _ L.l.nm, L.l.cell⟩, R, L.ap⟩
end
/-! numbers of a history -/
/-! names that are not taken -/
/-! histories one behind the other -/
/-! what the written part says -/
end DR
/-! ### roads told by effects -/
namespace DR
open PySem PySem.Spec PyProof.Rows L2 LamX
/-- a program of few instructions whose repeats are few -/
structure MidP (b : List Ins) (k N m : Nat) : Prop where
  gd : GdP b k N m
  rp : RP 5 b
theorem Flat.mid {b : List Ins} {N R : Nat} (h : Flat b N R) (hR : R ≤ 10 ^ 30) : MidP b 0 N 0 := ⟨h.gd hR, (flat_np h.flat).2⟩
theorem MidP.app {b c : List Ins} {k j N M m l : Nat} (h : MidP b k N m) (h2 : MidP c j M l) : MidP (b ++ c) (max k j) (N + M) (m + l) := ⟨h.gd.app h2.gd, RP_app _ _ h.rp h2.rp⟩
theorem MidP.rep {b : List Ins} {k N m : Nat} {n : Int} (h : MidP b k N m) (h0 : 0 ≤ n) (h5 : n ≤ 5) : MidP [.rep n b] (k + 1) (N + 1) (m + 1) := by
  refine ⟨h.gd.rep h0 (Int.le_trans h5 (by decide +kernel)), ?_⟩
  rw [RP_cons, RI]
  exact ⟨⟨h5, h.rp⟩, by rw [RP]; trivial⟩
theorem MidP.up {b : List Ins} {k j N M m l : Nat} (h : MidP b k N m) (h1 : k ≤ j) (h2 : N ≤ M) (h3 : m ≤ l) : MidP b j M l := ⟨h.gd.up h1 h2 h3, h.rp⟩
theorem MidP.ex {b : List Ins} {k N m : Nat} (h : MidP b k N m) : exP b ≤ ((N * 5 ^ k : Nat) : Int) :=
  Int.le_trans (ex_bd (R := 5) (by decide) k b h.gd.d (ctP_parts h.gd.g).2.1 h.rp) (Int.ofNat_le.mpr (Nat.mul_le_mul_right _ h.gd.c))
def sp__law_programM (K : PySem.W.Frag) : Sp := fun vs H Q _ => ∃ (p c : Addr) (most reach rounds : Int) (n : Nat), vs = [.ref p, .int most, .int reach, .int rounds] ∧ 0 ≤ most ∧ most ≤ 50 ∧ 0 ≤ reach ∧ reach ≤ 10 ^ 30 ∧ 0 ≤ rounds ∧ rounds ≤ 5 ∧ PenAt H p c n ∧ n < 2 ^ 38 ∧
  ∀ F xs b H', H F = none → Kp p H H' → PenAt H' p c (n + 2000) → H' F = some (.lst xs) → IVs K (er H H') xs b → MidP b 2 (13 * most.toNat + 6) 5 → Q (.ref F) H'
/-- what a road and an effect ask of a program -/
structure EffP (b : List Ins) : Prop where
  ok : ProgOk b
  dp : dpP b < 3
  w : WP b
  nn : NP b
  few : cnP b ≤ 100
  ex : exP b ≤ 2500
theorem MidP.eff {b : List Ins} (h : MidP b 2 100 5) : EffP b :=
  ⟨h.gd.prog (by decide) (by decide) (by decide), by have := h.gd.d; omega, ct_wp 1024 (by decide) (Nat.le_trans h.gd.c (by decide)) h.gd.g, (ctP_parts h.gd.g).2.1, h.gd.c, h.ex⟩
theorem nodup_few {α : Type} [DecidableEq α] : ∀ (A Z : List α), A.Nodup → (∀ a ∈ A, a ∈ Z) → A.length ≤ Z.length
  | [], _, _, _ => Nat.zero_le _
  | a :: A, Z, nd, h => by
    have ha := h a List.mem_cons_self
    obtain ⟨h1, h2⟩ := List.nodup_cons.mp nd
    have ih := nodup_few A (Z.erase a) h2 fun b hb => by
      have hbZ := h b (List.mem_cons_of_mem _ hb)
      have ne : b ≠ a := fun z => h1 (by rw [← z]; exact hb)
      exact (List.mem_erase_of_ne ne).mpr hbZ
    rw [List.length_erase_of_mem ha] at ih
    have := List.length_pos_of_mem ha
    rw [List.length_cons]
    omega
/-- a polynomial has no more terms than its places -/
theorem nf_places {p : Int} {g : Pol} {F : Int → Int} (N : Nf p g F) (L : List Int) (h : ∀ x, F x % p ≠ 0 → x ∈ L) : g.length ≤ L.length := by
  have nd : (g.map (·.1)).Nodup := (List.pairwise_map.mpr N.asc).imp fun h => Int.ne_of_lt h
  have := nodup_few (g.map (·.1)) L nd fun x hx => by
    obtain ⟨t, ht, rfl⟩ := List.mem_map.mp hx
    refine h _ ?_
    rw [← N.cof, cf_mem N.asc t ht]
    have := (N.rng t ht).1
    omega
  rwa [List.length_map] at this
theorem nf_nodup {p : Int} {g : Pol} {F : Int → Int} (N : Nf p g F) : (g.map (·.1)).Nodup := (List.pairwise_map.mpr N.asc).imp fun h => Int.ne_of_lt h
theorem cf_sum_len {p : Int} {g m f : Pol} {pl : Int} (N : Nf p g fun x => cf m x + cf f (x - pl)) : g.length ≤ m.length + f.length := by
  have := nf_places N (m.map (·.1) ++ f.map fun t => t.1 + pl) fun x hx => by
    refine Classical.byContradiction fun z => hx ?_
    rw [List.mem_append, not_or] at z
    rw [cf_out z.1, cf_out fun y => z.2 (by
      obtain ⟨t, ht, e⟩ := List.mem_map.mp y
      exact List.mem_map.mpr ⟨t, ht, by omega⟩)]
    exact Int.zero_emod p
  rwa [List.length_append, List.length_map, List.length_map] at this
theorem nf_next {p : Int} {g m f : Pol} {pl : Int} {F G : Int → Int} (Nm : Nf p m F) (Nf' : Nf p f G) (N : Nf p g fun x => cf m x + cf f (x - pl)) : Nf p g fun x => F x + G (x - pl) :=
  ⟨N.asc, N.rng, fun x => by rw [N.cof, Nm.cof, Nf'.cof, ← Int.add_emod]⟩
def sp__law_appliedR (K : PySem.W.Frag) : Sp := fun vs H Q _ => ∃ (q : Int) (A : Addr) (xs : List V) (as : List Act), vs = [.int q, .ref A] ∧ 0 < q ∧ SqL K H A xs ∧ ActVs K H xs as ∧ Lgl as ∧ as.length ≤ 100 ∧ (∀ n d b, Act.run n d b ∈ as → EffP b) ∧
  ∀ t d s g H', Same H H' → SqT K H' t [.ref d, .ref s] → H d = none → H s = none → d ≠ s → H' d = some (.dK (kvOf g)) → H' s = some (.dK (stK (stO as))) → Nf q g (fun x => dlT 0 as as.length x) → g.length ≤ 250000 → Q (.ref t) H'
theorem dl_enter {as : List Act} {j : Nat} {n : Str} {pl : Int} (h : as[j]? = some (.enter n pl)) (x : Int) : dlT 0 as (j + 1) x = dlT 0 as j x := by
  show dlT 0 as j x + dlC 0 as j x = _
  unfold dlC
  rw [h]
  exact Int.add_zero _
theorem dl_run {as : List Act} {j : Nat} {n : Str} {d : PyData} {b : List Ins} {z : Int} (h : as[j]? = some (.run n d b)) (hz : gS (stO (as.take j)) n = some z) (x : Int) : dlT 0 as (j + 1) x = dlT 0 as j x + seP b (x - z) := by
  show dlT 0 as j x + dlC 0 as j x = _
  unfold dlC
  rw [h]
  simp only [Nat.zero_le, if_true]
  rw [hz]
  rfl
/-- [something drawn for parts of anything walked], told by the place -/
theorem lcMadeW {p c : Addr} {J : It} {n : Nat} {G0 : Hp → Prop} {Y : Nat → Hp → V → Hp → Prop} {tv : TI} {g : TG} {te : TE} {σ : L2.St} {H : Hp} {vs : List Nat} {Q : VK} (wk : Walk J n G0 Y) (G : Nat → Hp → V → Prop) (st : ∀ i H1 H2 m x, PenAt H1 p c m → Kp p H1 H2 → G i H1 x → G i H2 x)
    (hv : ∀ S : It → Hp → Prop, S J H → tv σ H S) (h0 : ∀ H', Kp p H H' → G0 H') (few : n ≤ 1000) (b cost : Nat) (pen : PenAt H p c b)
    (he : ∀ m x H2 H3, m < n → Kp p H H2 → PenAt H2 p c (b + cost * m) → Y m H2 x H3 → ∀ S : VK, (∀ v H4, Kp p H2 H4 → PenAt H4 p c (b + cost * (m + 1)) → (∀ D, H2 D ≠ none → (∃ xs, H4 D = some (.lst xs)) → G m (er1 D H4) v) → S v H4) → g x (wipe σ vs) H3 fun σ2 H' => wipe σ2 vs = wipe σ vs ∧ te σ2 H' S)
    (k : ∀ D ys H2, H D = none → H2 D = some (.lst ys) → ys.length = n → (∀ m y, ys[m]? = some y → G m H2 y) → Kp p H H2 → PenAt H2 p c (b + cost * n) → Q (.ref D) H2) : tLc tv g tYes te vs σ H Q := by
  refine hv _ ?_
  intro D nD
  have npD := pen.np nD
  have ncD := pen.nc nD
  refine lc_it wk (fun m H2 => Kp p H H2 ∧ PenAt H2 p c (b + cost * m) ∧ ∃ ys, H2 D = some (.lst ys) ∧ ys.length = m ∧ ∀ i y, ys[i]? = some y → G i (er1 D H2) y) ⟨Same.kp (same_new nD), pen.same (same_new nD), [], upd_same, rfl, fun i y h => by simp at h⟩ (fun m H2 _ z => h0 _ z.1) ?_ ?_
  · rintro m x H2 H3 hm ⟨k2, pen2, ys, hD, hl, hR⟩ hy
    have key := he m x H2 H3 hm k2 pen2 hy (fun v H4 => ∃ acc, H4 D = some (.lst acc) ∧ acc.length < sizeLine ∧ (Kp p H (upd H4 D (.lst (acc ++ [v]))) ∧ PenAt (upd H4 D (.lst (acc ++ [v]))) p c (b + cost * (m + 1)) ∧ ∃ ys, upd H4 D (.lst (acc ++ [v])) D = some (.lst ys) ∧ ys.length = m + 1 ∧ ∀ i y, ys[i]? = some y → G i (er1 D (upd H4 D (.lst (acc ++ [v])))) y)) fun v H4 k4 pen4 hv4 => ?_
    · dsimp only [tYes]
      simp only [if_true]
      exact key
    have hD4 := k4 _ _ npD hD
    refine ⟨ys, hD4, sl_lt (by omega), fun a o na ea => ?_, pen4.upd npD ncD, ys ++ [v], upd_same, by rw [List.length_append, hl]; rfl, fun i y hi => ?_⟩
    · rw [upd_ne (ne_of_none ea nD)]
      exact k4 _ _ na (k2 _ _ na ea)
    have put : Same (er1 D H4) (er1 D (upd H4 D (.lst (ys ++ [v])))) := fun a o e => by
      obtain ⟨n1, n2⟩ := er1_at e
      exact er1_of n1 (by rw [upd_ne n1]; exact n2)
    have pen4' := er1_pen npD.symm ncD.symm pen4
    by_cases q : i < ys.length
    · rw [List.getElem?_append_left q] at hi
      refine st _ _ _ _ _ (er1_pen npD.symm ncD.symm pen2) (fun a o na e => ?_) (hR i y hi)
      obtain ⟨n1, n2⟩ := er1_at e
      exact put _ _ (er1_of n1 (k4 _ _ na n2))
    · rw [List.getElem?_append_right (by omega)] at hi
      have : i - ys.length = 0 := by
        have := (List.getElem?_eq_some_iff.mp hi).1
        simp only [List.length_singleton] at this
        omega
      rw [this] at hi
      have hi : v = y := Option.some.inj hi
      subst hi
      have e : i = m := by omega
      subst e
      exact st _ _ _ _ _ pen4' (Same.kp put) (hv4 D (by rw [hD]; exact fun z => nomatch z) ⟨ys, hD4⟩)
  · rintro H2 ⟨k2, pen2, ys, hD, hl, hR⟩
    exact k D ys H2 nD hD hl (fun m y h => st _ _ _ _ _ (er1_pen npD.symm ncD.symm pen2) (Same.kp fun a o e => (er1_at e).2) (hR m y h)) k2 pen2
/-- a comprehension over what an expression gives that is worked out first -/
theorem lcOver {tv : TI} {g : TG} {te : TE} {σ : L2.St} {H : Hp} {vs : List Nat} {Q : VK} (W : It → Hp → Prop) (hv : ∀ S : It → Hp → Prop, (∀ J H0, W J H0 → S J H0) → tv σ H S) (rest : ∀ J H0, W J H0 → tLc (fun _ H' S => S J H') g tYes te vs σ H0 Q) : tLc tv g tYes te vs σ H Q :=
  hv _ fun J H0 h => rest J H0 h
section
variable {K : PySem.W.Frag} {H H' : Hp} {T : List (Addr × Str)}
theorem tabs_but {M : Addr → Prop} (t : Tabs T H) (k : Kst M H H') (m : ∀ b, M b → (∃ kvs, H b = some (.dK kvs)) ∨ ∃ xs, H b = some (.lst xs)) : Tabs T H' := fun q hq => by
  obtain ⟨ps, h1, h2, h3⟩ := t q hq
  have out : ∀ b o, H b = some o → (∀ kvs, o ≠ .dK kvs) → (∀ xs, o ≠ .lst xs) → ¬ M b := fun b o e n1 n2 z => by
    rcases m b z with ⟨kvs, y⟩ | ⟨xs, y⟩
    · exact n1 kvs (Option.some.inj (e.symm.trans y))
    · exact n2 xs (Option.some.inj (e.symm.trans y))
  refine ⟨ps, k _ _ (out _ _ h1 (fun _ z => nomatch z) fun _ z => nomatch z) h1, h2, fun pos cv hc => ?_⟩
  obtain ⟨c, e, hco⟩ := h3 pos cv hc
  exact ⟨c, e, k _ _ (out _ _ hco (fun _ z => by unfold CodeO at z; cases z) fun _ z => by unfold CodeO at z; cases z) hco⟩
theorem tabs_kp {p c : Addr} {n : Nat} (t : Tabs T H) (pen : PenAt H p c n) (k : Kp p H H') : Tabs T H' :=
  tabs_but (M := fun b => b = p) t (fun b o nb e => k b o nb e) fun b hb => by
    obtain ⟨kvs, e⟩ := pen.dk
    exact .inl ⟨kvs, by rw [hb]; exact e⟩
theorem tabs_kst {p : Addr} {M : Addr → Prop} (t : Tabs T H) (m : MOk M p H) (k : Kst M H H') : Tabs T H' :=
  tabs_but t k fun b hb => by
    rcases m.lists b hb with e | e
    · exact .inl (by rw [e]; exact m.dict)
    · exact .inr e
theorem ActV.kp {p c : Addr} {n : Nat} {v : V} {a : Act} (pen : PenAt H p c n) (k : Kp p H H') (h : ActV K H v a) : ActV K H' v a := by
  cases a with
  | enter m pl =>
    obtain ⟨t, e, z⟩ := h
    exact ⟨t, e, tp_t (pen.tp k) z⟩
  | run m d b =>
    obtain ⟨t, u, e, z, hd, hp⟩ := h
    exact ⟨t, u, e, tp_t (pen.tp k) z, Dp.kp pen k hd, hp⟩
theorem ActVs.kp {p c : Addr} {n : Nat} (pen : PenAt H p c n) (k : Kp p H H') : ∀ {xs : List V} {as : List Act}, ActVs K H xs as → ActVs K H' xs as
  | _, _, .nil => .nil
  | _, _, .cons r q => .cons (r.kp pen k) (ActVs.kp pen k q)
end
/-- names, and where each of them starts -/
structure Sta (K : PySem.W.Frag) (p c : Addr) (n : Nat) (H : Hp) (N S : Addr) (q : Int) (ns : List Str) (xs : List V) (as : List Act) : Prop where
  q0 : 0 < q
  q9 : q ≤ 97
  pen : PenAt H p c n
  nm : H N = some (.lst (ns.map V.str))
  len : ns.length = 3
  nd : ns.Nodup
  ok : ∀ z ∈ ns, nameOk z = true
  ls : H S = some (.lst xs)
  acts : ActVs K H xs as
  names : namesOf as = ns
  ent : ∀ a ∈ as, ∃ m pl, a = Act.enter m pl ∧ pl.natAbs ≤ 9
section
variable {K : PySem.W.Frag} {p c N S : Addr} {n m : Nat} {H H' : Hp} {q : Int} {ns : List Str} {xs : List V} {as : List Act}
theorem Sta.kp (h : Sta K p c n H N S q ns xs as) (k : Kp p H H') (pen : PenAt H' p c m) : Sta K p c m H' N S q ns xs as :=
  ⟨h.q0, h.q9, pen, kp_lst h.pen k h.nm, h.len, h.nd, h.ok, kp_lst h.pen k h.ls, ActVs.kp h.pen k h.acts, h.names, h.ent⟩
theorem Sta.same (h : Sta K p c n H N S q ns xs as) (s : Same H H') : Sta K p c n H' N S q ns xs as := h.kp (Same.kp s) (h.pen.same s)
theorem Sta.ext (h : Sta K p c n H N S q ns xs as) (e : ExtN H H') : Sta K p c n H' N S q ns xs as :=
  ⟨h.q0, h.q9, h.pen.ext e, e.get h.nm, h.len, h.nd, h.ok, e.get h.ls, ActVs.ext e h.acts, h.names, h.ent⟩
theorem Sta.mono (h : Sta K p c n H N S q ns xs as) (le : n ≤ m) : Sta K p c m H N S q ns xs as := ⟨h.q0, h.q9, h.pen.mono le, h.nm, h.len, h.nd, h.ok, h.ls, h.acts, h.names, h.ent⟩
end
theorem acts_enter {K : PySem.W.Frag} {H : Hp} : ∀ {ys : List V} {ns : List Str}, ys.length = ns.length → (∀ (m : Nat) (y : V), ys[m]? = some y → ∃ (z : Str) (pl : Int), ns[m]? = some z ∧ pl.natAbs ≤ 9 ∧ ActV K H y (.enter z pl)) →
    ∃ as, ActVs K H ys as ∧ namesOf as = ns ∧ ∀ a ∈ as, ∃ m pl, a = Act.enter m pl ∧ pl.natAbs ≤ 9
  | [], [], _, _ => ⟨[], .nil, rfl, fun _ h => absurd h List.not_mem_nil⟩
  | [], _ :: _, h, _ => by cases h
  | _ :: _, [], h, _ => by cases h
  | y :: ys, n :: ns, h, k => by
    obtain ⟨z, pl, e, b, v⟩ := k 0 y rfl
    obtain rfl : n = z := Option.some.inj e
    obtain ⟨as, h1, h2, h3⟩ := acts_enter (ys := ys) (ns := ns) (Nat.succ.inj h) fun m y e => k (m + 1) y (by simpa using e)
    refine ⟨.enter n pl :: as, .cons v h1, by rw [← h2]; rfl, fun a ha => ?_⟩
    rcases List.mem_cons.mp ha with q | q
    · exact ⟨n, pl, q, b⟩
    · exact h3 a q
/-- runs of names that have been entered -/
def RunsOf (ns : List Str) (as : List Act) : Prop := ∀ a ∈ as, ∃ m d b, a = Act.run m d b ∧ m ∈ ns ∧ EffP b ∧ IsP d b
theorem acts_run {K : PySem.W.Frag} {H : Hp} {ns : List Str} {ys : List V} (k : ∀ y ∈ ys, ∃ (z : Str) (d : PyData) (b : List Ins), z ∈ ns ∧ EffP b ∧ IsP d b ∧ ActV K H y (.run z d b)) : ∃ f : V → Act, ActVs K H ys (ys.map f) ∧ RunsOf ns (ys.map f) := by
  have each : ∀ y ∈ ys, ∃ a : Act, ActV K H y a ∧ ∃ m d b, a = Act.run m d b ∧ m ∈ ns ∧ EffP b ∧ IsP d b := fun y hy => by
    obtain ⟨z, d, b, h1, h2, h3, h4⟩ := k y hy
    exact ⟨_, h4, z, d, b, rfl, h1, h2, h3⟩
  refine ⟨fun y => if h : y ∈ ys then (each y h).choose else .enter Str.empty 0, paired_mk (by rw [List.length_map]) fun i x a hx ha => ?_, fun a ha => ?_⟩
  · rw [List.getElem?_map, hx] at ha
    have ha : (if h : x ∈ ys then (each x h).choose else .enter Str.empty 0) = a := Option.some.inj ha
    rw [dif_pos (List.mem_of_getElem? hx)] at ha
    rw [← ha]
    exact (each x (List.mem_of_getElem? hx)).choose_spec.1
  · obtain ⟨y, hy, rfl⟩ := List.mem_map.mp ha
    rw [dif_pos hy]
    exact (each y hy).choose_spec.2
theorem acts_map {K : PySem.W.Frag} {H : Hp} {ys zs : List V} {f : V → Act} (h : ActVs K H zs (zs.map f)) (p : ys.Perm zs) : ActVs K H ys (ys.map f) := by
  refine paired_mk (by rw [List.length_map]) fun i x a hx ha => ?_
  obtain ⟨m, hm⟩ := List.getElem?_of_mem (p.mem_iff.mp (List.mem_of_getElem? hx))
  obtain ⟨b, hb, v⟩ := ActVs.get h hm
  rw [List.getElem?_map, hm] at hb
  rw [List.getElem?_map, hx] at ha
  rw [← Option.some.inj ha, Option.some.inj hb]
  exact v
/-- a list of actions that stands outside what may change -/
structure HisAt (K : PySem.W.Frag) (M : Addr → Prop) (H : Hp) (S : Addr) (xs : List V) (as : List Act) : Prop where
  ls : erM M H S = some (.lst xs)
  acts : ActVs K (erM M H) xs as
section
variable {K : PySem.W.Frag} {M : Addr → Prop} {H H' : Hp} {S : Addr} {xs : List V} {as : List Act}
theorem HisAt.kst (h : HisAt K M H S xs as) (k : Kst M H H') : HisAt K M H' S xs as := ⟨k.er _ _ h.ls, h.acts.same k.er⟩
theorem HisAt.ext (h : HisAt K M H S xs as) (e : ExtN H H') : HisAt K M H' S xs as := ⟨(e.er M).get h.ls, ActVs.ext (e.er M) h.acts⟩
theorem HisAt.list (h : HisAt K M H S xs as) : H S = some (.lst xs) := (erM_at h.ls).2
theorem HisAt.all (h : HisAt K M H S xs as) : ActVs K H xs as := h.acts.same erM_le
end
section
variable {K : PySem.W.Frag} {C p c N r D T r2 D2 T2 : Addr} {n m : Nat} {M : Addr → Prop} {H H' : Hp} {ns : List Str} {q : Int} {as bs as' bs' cs es cs' es' : List Act}
theorem L98.ext (L : L98 K C p c n M H N ns r D T q as bs) (e : ExtN H H') : L98 K C p c n M H' N ns r D T q as bs :=
  ⟨L.pen.ext e, L.road.ext e, L.mok.ext e, (e.er M).get L.nm, L.cell⟩
theorem L98b.ext (L : L98b K C p c n M H N ns r D T q as bs r2 D2 T2 cs es) (e : ExtN H H') : L98b K C p c n M H' N ns r D T q as bs r2 D2 T2 cs es := ⟨L.l.ext e, L.two.ext e, L.ap⟩
end
theorem enter_len : ∀ {as : List Act}, (∀ a ∈ as, ∃ m pl, a = Act.enter m pl ∧ pl.natAbs ≤ 9) → (namesOf as).length = as.length
  | [], _ => rfl
  | a :: r, h => by
    obtain ⟨m, pl, rfl, _⟩ := h a List.mem_cons_self
    show (m :: namesOf r).length = _
    rw [List.length_cons, List.length_cons, enter_len fun a ha => h a (List.mem_cons_of_mem _ ha)]
theorem made_ok {ns : List Str} {as rs : List Act} (hn : namesOf as = ns) (nd : ns.Nodup) (ok : ∀ z ∈ ns, nameOk z = true) (ent : ∀ a ∈ as, ∃ m pl, a = Act.enter m pl ∧ pl.natAbs ≤ 9) (ro : RunsOf ns rs) : Taken (as ++ rs) := fun j a ha => by
  by_cases lt : j < as.length
  · rw [List.getElem?_append_left lt] at ha
    obtain ⟨m, pl, rfl, hpl⟩ := ent a (List.mem_of_getElem? ha)
    have e : as = as.take j ++ .enter m pl :: as.drop (j + 1) := by
      have := List.take_append_drop j as
      rw [List.drop_eq_getElem_cons lt] at this
      rw [List.getElem?_eq_getElem lt] at ha
      rw [← Option.some.inj ha]
      exact this.symm
    have e2 : ns = namesOf (as.take j) ++ m :: namesOf (as.drop (j + 1)) := by
      rw [← hn]
      conv => lhs; rw [e]
      rw [names_app]
      rfl
    rw [List.take_append_of_le_length (Nat.le_of_lt lt)]
    have mem : m ∈ ns := by rw [e2]; exact List.mem_append_right _ List.mem_cons_self
    refine ⟨ok m mem, fun z => ?_, Nat.le_trans hpl (by decide +kernel)⟩
    rw [e2] at nd
    exact (List.nodup_append.mp nd).2.2 m z m List.mem_cons_self rfl
  · rw [List.getElem?_append_right (by omega)] at ha
    obtain ⟨m, d, b, rfl, hm, he, hp⟩ := ro a (List.mem_of_getElem? ha)
    refine ⟨?_, he.ok, hp⟩
    rw [List.take_append, List.take_of_length_le (by omega), names_app, hn]
    exact List.mem_append_left _ hm
theorem RunsOf.perm {ns : List Str} {as bs : List Act} (h : RunsOf ns as) (p : bs.Perm as) : RunsOf ns bs := fun a ha => h a (p.mem_iff.mp ha)
def nmA : Act → Str
  | .enter n _ => n
  | .run n _ _ => n
theorem run_keys {K : PySem.W.Frag} {H : Hp} {zs : List V} {f : V → Act} {ns : List Str} (h : ActVs K H zs (zs.map f)) (ro : RunsOf ns (zs.map f)) : ∀ x ∈ zs, ∃ t ys, x = .ref t ∧ SqT K H t ys ∧ ys[1]? = some (.str (nmA (f x))) := fun x hx => by
  obtain ⟨m, hm⟩ := List.getElem?_of_mem hx
  obtain ⟨a, ha, v⟩ := ActVs.get h hm
  rw [List.getElem?_map, hm] at ha
  have e : f x = a := Option.some.inj ha
  obtain ⟨n, d, b, e2, _⟩ := ro a (by rw [← e]; exact List.mem_map_of_mem hx)
  rw [e2] at v
  obtain ⟨t, u, et, ht, _⟩ := v
  exact ⟨t, _, et, ht, by rw [e, e2]; rfl⟩
theorem made_eff {ns : List Str} {as rs : List Act} (ent : ∀ a ∈ as, ∃ m pl, a = Act.enter m pl ∧ pl.natAbs ≤ 9) (ro : RunsOf ns rs) : ∀ n d b, Act.run n d b ∈ as ++ rs → EffP b := fun n d b h => by
  rcases List.mem_append.mp h with h | h
  · obtain ⟨m, pl, e, _⟩ := ent _ h
    cases e
  · obtain ⟨m, d2, b2, e, _, he, _⟩ := ro _ h
    cases e
    exact he
/-! ### actions of other names pass one another -/
/-- for each name the same actions in the same order -/
def Alike (as bs : List Act) : Prop := ∀ n : Str, (as.filter fun a => decide (nmA a = n)) = bs.filter fun a => decide (nmA a = n)
theorem fl_pos {n : Str} {b : Act} {bs : List Act} (q : nmA b = n) : ((b :: bs).filter fun a => decide (nmA a = n)) = b :: bs.filter fun a => decide (nmA a = n) := List.filter_cons_of_pos (by simpa using q)
theorem fl_neg {n : Str} {b : Act} {bs : List Act} (q : nmA b ≠ n) : ((b :: bs).filter fun a => decide (nmA a = n)) = bs.filter fun a => decide (nmA a = n) := List.filter_cons_of_neg (by simpa using q)
theorem alike_map {f : V → Act} {ys zs : List V} (h : ∀ n : Str, (ys.filter fun x => decide (nmA (f x) = n)) = zs.filter fun x => decide (nmA (f x) = n)) : Alike (ys.map f) (zs.map f) := fun n => by
  rw [List.filter_map, List.filter_map]
  exact congrArg (List.map f) (h n)
/-- what an action adds at x, from a state -/
def ddA (m : List (Str × Int)) (x : Int) : Act → Int
  | .enter _ _ => 0
  | .run n _ b => seP b (x - (gS m n).getD 0)
def ddL : List (Str × Int) → List Act → Int → Int
  | _, [], _ => 0
  | m, a :: r, x => ddA m x a + ddL (stStep m a) r x
def SameS (m k : List (Str × Int)) : Prop := ∀ n, gS m n = gS k n
theorem step_at (m : List (Str × Int)) (a : Act) (n : Str) : gS (stStep m a) n = if nmA a = n then some (match a with | .enter _ pl => pl | .run k _ b => (gS m k).getD 0 + shP b) else gS m n := by
  cases a with
  | enter k pl => exact gS_put m k n pl
  | run k d b => exact gS_put m k n _
theorem SameS.step {m k : List (Str × Int)} (h : SameS m k) (a : Act) : SameS (stStep m a) (stStep k a) := fun n => by
  rw [step_at, step_at, h n]
  cases a with
  | enter j pl => rfl
  | run j d b =>
    dsimp only
    rw [h j]
theorem ddA_same {m k : List (Str × Int)} (h : SameS m k) (x : Int) (a : Act) : ddA m x a = ddA k x a := by
  cases a with
  | enter j pl => rfl
  | run j d b =>
    show seP b (x - (gS m j).getD 0) = seP b (x - (gS k j).getD 0)
    rw [h j]
theorem ddL_same (x : Int) : ∀ (r : List Act) {m k : List (Str × Int)}, SameS m k → ddL m r x = ddL k r x
  | [], _, _, _ => rfl
  | a :: r, m, k, h => by
    unfold ddL
    rw [ddA_same h, ddL_same x r (h.step a)]
theorem SameS.fold : ∀ (r : List Act) {m k : List (Str × Int)}, SameS m k → SameS (r.foldl stStep m) (r.foldl stStep k)
  | [], _, _, h => h
  | a :: r, _, _, h => SameS.fold r (h.step a)
theorem swap_st (m : List (Str × Int)) {a b : Act} (h : nmA a ≠ nmA b) : SameS (stStep (stStep m a) b) (stStep (stStep m b) a) := fun n => by
  have own : ∀ (u v : Act), nmA u ≠ nmA v → gS (stStep m u) (nmA v) = gS m (nmA v) := fun u v ne => by rw [step_at, if_neg ne]
  have o1 := own a b h
  have o2 := own b a fun z => h z.symm
  rw [step_at, step_at m a, step_at (stStep m b) a, step_at m b]
  by_cases e1 : nmA b = n
  · have e2 : nmA a ≠ n := fun z => h (z.trans e1.symm)
    rw [if_pos e1, if_neg e2, if_pos e1]
    cases b with
    | enter k pl => rfl
    | run k d c =>
      have o1 : gS (stStep m a) k = gS m k := o1
      dsimp only
      rw [o1]
  · rw [if_neg e1, if_neg e1]
    by_cases e2 : nmA a = n
    · rw [if_pos e2, if_pos e2]
      cases a with
      | enter k pl => rfl
      | run k d c =>
        have o2 : gS (stStep m b) k = gS m k := o2
        dsimp only
        rw [o2]
    · rw [if_neg e2, if_neg e2]
theorem ddA_other (m : List (Str × Int)) (x : Int) {a b : Act} (h : nmA a ≠ nmA b) : ddA (stStep m a) x b = ddA m x b := by
  cases b with
  | enter j pl => rfl
  | run j d c =>
    show seP c (x - (gS (stStep m a) j).getD 0) = seP c (x - (gS m j).getD 0)
    have h : nmA a ≠ j := h
    rw [step_at, if_neg h]
/-- one action passes others of other names -/
theorem dd_pass (x : Int) (a : Act) : ∀ (pre post : List Act) (m : List (Str × Int)), (∀ b ∈ pre, nmA b ≠ nmA a) → ddL m (pre ++ a :: post) x = ddL m (a :: (pre ++ post)) x ∧ SameS ((pre ++ a :: post).foldl stStep m) ((a :: (pre ++ post)).foldl stStep m)
  | [], post, m, _ => ⟨rfl, fun _ => rfl⟩
  | b :: pre, post, m, h => by
    have hb := h b List.mem_cons_self
    obtain ⟨h1, h2⟩ := dd_pass x a pre post (stStep m b) fun c hc => h c (List.mem_cons_of_mem _ hc)
    refine ⟨?_, fun n => ?_⟩
    · show ddA m x b + ddL (stStep m b) (pre ++ a :: post) x = ddA m x a + (ddA (stStep m a) x b + ddL (stStep (stStep m a) b) (pre ++ post) x)
      rw [h1]
      show ddA m x b + (ddA (stStep m b) x a + ddL (stStep (stStep m b) a) (pre ++ post) x) = _
      rw [ddA_other m x hb, ddA_other m x (fun z => hb z.symm), ddL_same x _ (swap_st m hb)]
      omega
    · show gS ((pre ++ a :: post).foldl stStep (stStep m b)) n = gS ((pre ++ post).foldl stStep (stStep (stStep m a) b)) n
      rw [h2 n]
      exact SameS.fold (pre ++ post) (swap_st m hb) n
theorem split_first (n : Str) : ∀ {bs : List Act} {a : Act} {r : List Act}, (bs.filter fun b => decide (nmA b = n)) = a :: r → ∃ pre post, bs = pre ++ a :: post ∧ ∀ b ∈ pre, nmA b ≠ n
  | [], a, r, h => by cases h
  | b :: bs, a, r, h => by
    by_cases q : nmA b = n
    · rw [fl_pos q] at h
      obtain rfl := (List.cons.inj h).1
      exact ⟨[], bs, rfl, fun _ z => absurd z List.not_mem_nil⟩
    · rw [fl_neg q] at h
      obtain ⟨pre, post, e1, e2⟩ := split_first n h
      refine ⟨b :: pre, post, by rw [e1]; rfl, fun c hc => ?_⟩
      rcases List.mem_cons.mp hc with z | z
      · rw [z]; exact q
      · exact e2 c z
theorem alike_dd (x : Int) : ∀ (as bs : List Act) (m : List (Str × Int)), Alike as bs → ddL m as x = ddL m bs x ∧ SameS (as.foldl stStep m) (bs.foldl stStep m)
  | [], bs, m, h => by
    cases bs with
    | nil => exact ⟨rfl, fun _ => rfl⟩
    | cons b r =>
      have := h (nmA b)
      rw [fl_pos rfl] at this
      cases this
  | a :: as, bs, m, h => by
    have h0 := h (nmA a)
    rw [fl_pos rfl] at h0
    obtain ⟨pre, post, rfl, hp⟩ := split_first (nmA a) h0.symm
    have rest : Alike as (pre ++ post) := fun n => by
      have := h n
      rw [List.filter_append] at this ⊢
      by_cases e : nmA a = n
      · subst e
        have none : (pre.filter fun b => decide (nmA b = nmA a)) = [] := List.filter_eq_nil_iff.mpr fun b hb => by simp [hp b hb]
        rw [fl_pos rfl, none, fl_pos rfl] at this
        rw [none]
        exact (List.cons.inj this).2
      · rwa [fl_neg e, fl_neg e] at this
    obtain ⟨h1, h2⟩ := alike_dd x as (pre ++ post) (stStep m a) rest
    obtain ⟨h3, h4⟩ := dd_pass x a pre post m hp
    refine ⟨?_, fun n => ?_⟩
    · rw [h3]
      show ddA m x a + ddL (stStep m a) as x = ddA m x a + ddL (stStep m a) (pre ++ post) x
      rw [h1]
    · rw [h4 n]
      exact h2 n
theorem ddL_app (x : Int) : ∀ (as bs : List Act) (m : List (Str × Int)), ddL m (as ++ bs) x = ddL m as x + ddL (as.foldl stStep m) bs x
  | [], bs, m => (Int.zero_add _).symm
  | a :: as, bs, m => by
    show ddA m x a + ddL (stStep m a) (as ++ bs) x = ddA m x a + ddL (stStep m a) as x + ddL (as.foldl stStep (stStep m a)) bs x
    rw [ddL_app x as bs]
    omega
theorem dl_dd (as : List Act) (x : Int) : ∀ k, k ≤ as.length → dlT 0 as k x = ddL [] (as.take k) x
  | 0, _ => rfl
  | k + 1, h => by
    have ha : as[k]? = some as[k] := List.getElem?_eq_getElem (by omega)
    rw [take_snoc ha, ddL_app, ← dl_dd as x k (by omega)]
    show dlT 0 as k x + dlC 0 as k x = dlT 0 as k x + (ddA (stO (as.take k)) x as[k] + 0)
    unfold dlC ddA
    rw [ha]
    cases as[k] <;> simp
/-- the dials do not ask in which order walkers of other names went -/
theorem alike_dials {as rs bs : List Act} (h : Alike rs bs) (x : Int) : dlT 0 (as ++ rs) (as ++ rs).length x = dlT 0 (as ++ bs) (as ++ bs).length x ∧ SameS (stO (as ++ rs)) (stO (as ++ bs)) := by
  rw [dl_dd _ _ _ (Nat.le_refl _), dl_dd _ _ _ (Nat.le_refl _), List.take_length, List.take_length, ddL_app, ddL_app]
  obtain ⟨h1, h2⟩ := alike_dd x rs bs (as.foldl stStep []) h
  refine ⟨by rw [h1], fun n => ?_⟩
  unfold stO
  rw [List.foldl_append, List.foldl_append]
  exact h2 n
theorem names_runs {ns : List Str} : ∀ {rs : List Act}, RunsOf ns rs → namesOf rs = []
  | [], _ => rfl
  | a :: r, h => by
    obtain ⟨m, d, b, rfl, _⟩ := h a List.mem_cons_self
    exact names_runs (rs := r) fun a ha => h a (List.mem_cons_of_mem _ ha)
/-- the places told in the order of the names, and as they came -/
theorem spots_eq {A B : List (Str × Int)} {ns : List Str} (p : ns.Perm (A.map (·.1))) (same : SameS A B) (len : A.length = B.length) :
    (stK (ns.map fun n => (n, (gS A n).getD 0))).length = (stK B).length ∧ ∀ q ∈ stK (ns.map fun n => (n, (gS A n).getD 0)), valV (stK B) q.1 = some q.2 ∧ flatB q.2 = true := by
  refine ⟨by rw [stK_len, stK_len, List.length_map, p.length_eq, List.length_map, len], fun q hq => ?_⟩
  obtain ⟨t, ht, rfl⟩ := List.mem_map.mp hq
  obtain ⟨n, hn, rfl⟩ := List.mem_map.mp ht
  refine ⟨?_, rfl⟩
  show valV (stK B) (Sum.inr n) = _
  rw [stK_val, ← same n]
  cases e : gS A n with
  | none => exact absurd (p.mem_iff.mp hn) (gS_none.mp e)
  | some v => rfl
theorem sto_len {ns : List Str} {as rs : List Act} (lg : Lgl (as ++ rs)) (hn : namesOf as = ns) (ro : RunsOf ns rs) : (stO (as ++ rs)).length = ns.length := by
  have := lg.names.1
  rw [names_app, names_runs ro, List.append_nil, hn] at this
  rw [← this, List.length_map]
theorem gS_told (F : Str → Int) (z : Str) : ∀ {ns : List Str}, z ∈ ns → gS (ns.map fun n => (n, F n)) z = some (F z)
  | [], h => absurd h List.not_mem_nil
  | n :: ns, h => by
    show (if n = z then some (F n) else gS (ns.map fun n => (n, F n)) z) = some (F z)
    by_cases e : n = z
    · rw [if_pos e, e]
    · rw [if_neg e]
      exact gS_told F z ((List.mem_cons.mp h).resolve_left fun y => e y.symm)
theorem sto_snoc (as : List Act) (a : Act) : stO (as ++ [a]) = stStep (stO as) a := by
  unfold stO
  rw [List.foldl_append]
  rfl
theorem run_place {as : List Act} {n : Str} {d : PyData} {b : List Ins} {z : Int} (h : gS (stO as) n = some z) : gS (stO (as ++ [Act.run n d b])) n = some (z + shP b) := by
  rw [sto_snoc, step_at, if_pos (show nmA (Act.run n d b) = n from rfl)]
  show some ((gS (stO as) n).getD 0 + shP b) = _
  rw [h]
  rfl
theorem run_dials {as : List Act} {n : Str} {d : PyData} {b : List Ins} {z : Int} (h : gS (stO as) n = some z) (x : Int) : dlT 0 (as ++ [Act.run n d b]) (as ++ [Act.run n d b]).length x = dlT 0 as as.length x + seP b (x - z) := by
  rw [dl_dd _ _ _ (Nat.le_refl _), dl_dd _ _ _ (Nat.le_refl _), List.take_length, List.take_length, ddL_app]
  show ddL [] as x + (seP b (x - (gS (stO as) n).getD 0) + 0) = _
  rw [h, Int.add_zero]
  rfl
/-- a filter over a list made just now that lets nothing through -/
theorem lcNoNew {K : PySem.W.Frag} {σ : L2.St} {H : Hp} {vs : List Nat} {i : Nat} {tv te : TE} {tt : TT} {Q : VK} (P : List V → Prop) (hv : ∀ R : VK, (∀ a xs H1, Same H H1 → H1 a = some (.lst xs) → P xs → R (.ref a) H1) → tv σ H R)
    (hw : ∀ x, wipe ((wipe σ vs).set i (some x)) vs = wipe σ vs)
    (ht : ∀ xs, P xs → ∀ x ∈ xs, ∀ H2, Same H H2 → ∀ S : Bool → Hp → Prop, (∀ H3, Same H2 H3 → S false H3) → tt ((wipe σ vs).set i (some x)) H2 S)
    (k : ∀ D H2, Same H H2 → H2 D = some (.lst []) → Q (.ref D) H2) : tLc (iList K tv) (gName i) tt te vs σ H Q := by
  refine hv _ fun a xs H1 s1 ha hP => ⟨a, rfl, ⟨_, SqL.of ha⟩, fun D nD => lc_list (K := K) (a := a) (xs := xs) (fun m H2 => Same H1 H2 ∧ H2 D = some (.lst [])) ⟨same_new nD, upd_same⟩ (fun m H2 _ g => SqL.of (g.1 _ _ ha)) ?_ ?_⟩
  · rintro m x H2 hm ⟨s2, h2⟩
    exact ⟨hw _, ht xs hP x (List.mem_of_getElem? hm) H2 (s1.trans s2) _ fun H3 s3 => iteF ⟨s2.trans s3, s3 _ _ h2⟩⟩
  · rintro H2 ⟨s2, h2⟩
    exact k D H2 (s1.trans s2) h2
end DR
namespace DR
open PySem PySem.Spec PyProof.Rows L2
def topS (i : Nat) : Stmt := PySem.Challenge.pw_dialroad_k95_whole_road_of_effects.main.body.getD i (.Pass ⟨0, 0, 0, 0⟩)
abbrev s_is_whole : Stmt := topS 10
abbrev s_common_divisor : Stmt := topS 11
abbrev s_from_sums : Stmt := topS 13
abbrev s_normalize : Stmt := topS 14
abbrev s_add : Stmt := topS 15
abbrev s_move : Stmt := topS 16
abbrev s_is_count : Stmt := topS 23
abbrev s_is_step_or_turn : Stmt := topS 24
abbrev s_begins_as_repeat : Stmt := topS 25
abbrev s_sizes_of : Stmt := topS 26
abbrev s_is_program : Stmt := topS 27
abbrev s_copied : Stmt := topS 28
abbrev s_shift_of : Stmt := topS 30
abbrev s_executed : Stmt := topS 31
abbrev s_unrolled : Stmt := topS 32
abbrev s_effect_of : Stmt := topS 33
abbrev s_repeated : Stmt := topS 35
abbrev s_terms_of : Stmt := topS 36
abbrev s_pairs_at : Stmt := topS 37
abbrev s_ways_at : Stmt := topS 38
abbrev s_value_of : Stmt := topS 39
abbrev s_is_name : Stmt := topS 43
abbrev s_Road___init__ : Stmt := inClass (topS 46) 0
abbrev s_Road_perform : Stmt := inClass (topS 46) 2
abbrev s_Road_has_walker : Stmt := inClass (topS 46) 3
abbrev s_Road_enter : Stmt := inClass (topS 46) 4
abbrev s_Road_run : Stmt := inClass (topS 46) 5
abbrev s_Road_number_of : Stmt := inClass (topS 46) 9
abbrev s_Road_replayed : Stmt := inClass (topS 46) 10
abbrev s_Road_dial : Stmt := inClass (topS 46) 11
abbrev s_Road_places : Stmt := inClass (topS 46) 12
abbrev s_compose : Stmt := topS 48
abbrev s_apply : Stmt := topS 49
abbrev s__law_pen : Stmt := topS 51
abbrev s__law_draw : Stmt := topS 52
abbrev s__law_pick : Stmt := topS 53
abbrev s__law_prime : Stmt := topS 54
abbrev s__law_integer : Stmt := topS 55
abbrev s__law_word : Stmt := topS 56
abbrev s__law_body : Stmt := topS 57
abbrev s__law_program : Stmt := topS 58
abbrev s__law_calls : Stmt := topS 59
abbrev s__law_act : Stmt := topS 60
abbrev s__law_applied : Stmt := topS 61
abbrev s_law : Stmt := topS 62
/-- the built-in names that the texts use are still the built-in ones -/
structure Blt (mg : Str → Option Value) : Prop where
  tuple : mg "tuple" = none
  sorted : mg "sorted" = none
  range : mg "range" = none
  list : mg "list" = none
  len : mg "len" = none
  abs : mg "abs" = none
  repr : mg "repr" = none
  int : mg "int" = none
  bool : mg "bool" = none
  dict : mg "dict" = none
  min : mg "min" = none
  max : mg "max" = none
  zip : mg "zip" = none
  all : mg "all" = none
  isinstance : mg "isinstance" = none
  sum : mg "sum" = none
  any : mg "any" = none
  str : mg "str" = none
  set : mg "set" = none
  reversed : mg "reversed" = none
  enumerate : mg "enumerate" = none
section
variable {P : Program} {w : World} {K : PySem.W.Frag} {mg : Str → Option Value} {base : Heap}
theorem ok_is_countZ {f : Addr} {fd : FuncData} (F : Fun K "is_count" "is_count" s_is_count f fd) (B : Blt mg) {tk : Tok} (G_GREATEST_COUNT : mg "GREATEST_COUNT" = some (.int 1000000000000000000000000000000 tk)) (C_is_whole : Cal P w K mg base 1 "is_whole" (sp_is_whole K)) : FnOk P w K mg base CX0 2 f fd ["value"] sp_is_countZ := by
  have sc_is_count : FnScope ["value"] ["value"] (defScope s_is_count) := ⟨rfl, rfl, rfl, by decide +kernel, rfl, by decide +kernel, by decide +kernel⟩
  refine F.ok sc_is_count (fun vs H Q E h => ?_) (fun cdv A outer s H vs Q E hr h => ?_)
  · obtain ⟨z, rfl, _⟩ := h
    rfl
  · obtain ⟨z, rfl, k⟩ := h
    have nd := sc_is_count.nd
    refine ⟨_, (pss_one (ps_ret (pe_and (pe_c C_is_whole hr (by decide) (by rfl) (pa_cons (pv 0) pa_nil)) (pe_one (pe_cmpR op_le (pe_callB call_abs (by rfl) B.abs (by decide +kernel) (pa_cons (pv 0) pa_nil)) (pe_glob (v := .int 1000000000000000000000000000000) rfl G_GREATEST_COUNT ⟨_, rfl⟩) (nomark _)))))), ?_⟩
    refine ⟨_, rfl, .int z, .int z, rfl, .inl (.int z), _, rfl, ?_⟩
    refine (if_pos (show isWhole (.int z) = true from rfl)).mpr ?_
    refine ⟨_, rfl, z, rfl, _, _, rfl, rfl, ?_⟩
    have e : decide (z.natAbs ≤ 10 ^ 30) = decide ((if z < 0 then -z else z) ≤ 1000000000000000000000000000000) := by
      rw [decide_eq_decide, show (10 : Nat) ^ 30 = 1000000000000000000000000000000 from by decide]
      split <;> omega
    rw [e] at k
    exact k
theorem ok__law_pickS {f : Addr} {fd : FuncData} (F : Fun K "_law_pick" "_law_pick" s__law_pick f fd) (B : Blt mg) (C__law_draw : Cal P w K mg base 1 "_law_draw" sp__law_draw) : FnOk P w K mg base CX0 2 f fd ["_law_pen_here", "_law_options"] sp__law_pickS := by
  have sc : FnScope ["_law_pen_here", "_law_options"] ["_law_pen_here", "_law_options"] (defScope s__law_pick) := ⟨rfl, rfl, rfl, by decide +kernel, rfl, by decide +kernel, by decide +kernel⟩
  refine F.ok sc (fun vs H Q E h => ?_) (fun cdv A outer s H vs Q E hr h => ?_)
  · obtain ⟨p, c, z, n, rfl, _⟩ := h
    rfl
  · obtain ⟨p, c, z, n, rfl, pen, hn, hz, hz2, k⟩ := h
    have nd := sc.nd
    refine ⟨_, (pss_one (ps_ret (pe_ix ix_str (pv 1) (pe_c C__law_draw hr (by decide) (by rfl) (pa_cons (pv 0) (pa_cons (pe_callB call_len_str (by rfl) B.len (by decide +kernel) (pa_cons (pv 1) pa_nil)) pa_nil))) (fun _ _ => rfl)))), ?_⟩
    refine ⟨_, rfl, _, rfl, _, rfl, z, rfl, sl_of (by omega), p, c, (z.length : Int), n, rfl, by omega, ?_, pen, hn, fun r H1 h0 h9 kp pen1 => ?_⟩
    · exact Nat.lt_of_le_of_lt (show ((z.length : Int)).natAbs ≤ 100000 by omega) (by decide)
    · obtain ⟨j, rfl⟩ : ∃ j : Nat, r = (j : Int) := ⟨r.toNat, by omega⟩
      have hj : j < (TL.tl z).length := by rw [← TL.len_tl]; omega
      refine ⟨z, (j : Int), (TL.tl z)[j], rfl, rfl, sl_of (by omega), atI_nat (List.getElem?_eq_getElem hj), ?_⟩
      exact k _ _ (List.getElem_mem hj) kp pen1
theorem sc_Road___init__ : FnScope ["self", "prime"] ["self", "prime"] (defScope s_Road___init__) := ⟨rfl, rfl, rfl, by decide +kernel, rfl, by decide +kernel, by decide +kernel⟩
theorem ok_Road___init__ {f C : Addr} {fd : FuncData} (F : Fun K "__init__" "Road.__init__" s_Road___init__ f fd) (T : ClRo K mg C) : FnOk P w K mg base CX0 1 f fd ["self", "prime"] (sp_road C) := by
  refine F.ok sc_Road___init__ (fun vs H Q E h => ?_) (fun cdv A outer s H vs Q E hr h => ?_)
  · obtain ⟨r, dx, q, rfl, _⟩ := h
    rfl
  · obtain ⟨r, dx, q, rfl, hp, k⟩ := h
    refine ⟨_, (pss_cons (ps_fld (pv 0) (pv 1) rfl)
    (pss_cons (ps_fld (pv 0) (pe_lst pa_nil) rfl)
    (pss_one (ps_fld (pv 0) (pe_lst pa_nil) rfl)))), ?_⟩
    refine ⟨_, rfl, _, rfl, r, C, dx, [], rfl, hp, T.cl, T.np, (by decide : 0 < 1000), ?_⟩
    refine ⟨Nat.zero_le _, fun D nD => ?_⟩
    have rD : r ≠ D := ne_of_none upd_same nD
    refine ⟨_, rfl, r, C, dx, _, rfl, by rw [upd_ne rD]; exact upd_same, T.cl, T.nd, (by show 1 < 1000; decide), ?_⟩
    refine ⟨Nat.zero_le _, fun T0 nT => ?_⟩
    have rT : r ≠ T0 := ne_of_none upd_same nT
    have DT : D ≠ T0 := fun z => by
      rw [← z, upd_ne rD.symm, upd_same] at nT
      cases nT
    refine ⟨_, rfl, r, C, dx, _, rfl, by rw [upd_ne rT]; exact upd_same, T.cl, T.nt, ?_, ?_⟩
    · exact Nat.lt_of_le_of_lt (length_putF _ _ _) (by show 1 + 1 < 1000; decide)
    have n1 : H D = none := by rw [upd_ne rD.symm] at nD; exact nD
    have n2 : H T0 = none := by rw [upd_ne rT.symm, upd_ne DT.symm, upd_ne rT.symm] at nT; exact nT
    refine k D T0 _ (fun b o nb e => ?_) n1 n2 DT ?_ ?_ ?_
    · rw [upd_ne nb, upd_ne (ne_of_none e n2), upd_ne nb, upd_ne (ne_of_none e n1), upd_ne nb]
      exact e
    · rw [upd_same]
      have e : putF "taken_back" (.ref T0) (putF "done" (.ref D) (putF "prime" (.int q) [])) = roF q D T0 := by
        show putF "taken_back" (.ref T0) (if ("prime" : Str) = "done" then _ else [(("prime" : Str), V.int q), (("done" : Str), V.ref D)]) = _
        rw [if_neg nmRo2.1]
        show (if ("prime" : Str) = "taken_back" then _ else (("prime" : Str), V.int q) :: (if ("done" : Str) = "taken_back" then _ else [(("done" : Str), V.ref D), (("taken_back" : Str), V.ref T0)])) = _
        rw [if_neg nmRo2.2.1, if_neg nmRo2.2.2]
        rfl
      exact congrArg (fun l => some (HO.ins C dx l)) e
    · rw [upd_ne rD.symm, upd_ne DT, upd_ne rD.symm, upd_same]
    · rw [upd_ne rT.symm, upd_same]
theorem sc_Road_perform : FnScope ["self", "action"] ["self", "action"] (defScope s_Road_perform) := ⟨rfl, rfl, rfl, by decide +kernel, rfl, by decide +kernel, by decide +kernel⟩
theorem ok_Road_perform {f C : Addr} {fd : FuncData} (F : Fun K "perform" "Road.perform" s_Road_perform f fd) (T : ClRo K mg C) : FnOk P w K mg base CX0 1 f fd ["self", "action"] (sp_perform K C) := by
  refine F.ok sc_Road_perform (fun vs H Q E h => ?_) (fun cdv A outer s H vs Q E hr h => ?_)
  · obtain ⟨r, D, T0, dx, t, q, xs, ys, rfl, _⟩ := h
    rfl
  · obtain ⟨r, D, T0, dx, t, q, xs, ys, rfl, hr0, hD, hT, ne, few, k⟩ := h
    have rD : r ≠ D := ne_of hr0 hD (by intro z; cases z)
    refine ⟨_, (pss_cons (ps_expr (pe_bm PySem.F.plainAttrs_list PySem.F.slot_list_append PySem.F.type_list_append mt_append (pe_fld (pv 0) rfl) (pa_cons (pv 1) pa_nil)))
    (pss_one (ps_expr (pe_bm0 PySem.F.plainAttrs_list PySem.F.slot_list_clear PySem.F.type_list_clear mt_clear (pe_fld (pv 0) rfl))))), ?_⟩
    refine ⟨_, rfl, r, C, dx, _, _, rfl, hr0, T.cl, T.nd, ro_done _ _ _, .inl ⟨rfl, _, SqL.of hD⟩, _, rfl, D, xs, _, rfl, rfl, hD, sl_lt (by omega), ?_⟩
    have hr1 : upd H D (.lst (xs ++ [.ref t])) r = some (.ins C dx (roF q D T0)) := by rw [upd_ne rD]; exact hr0
    have hT1 : upd H D (.lst (xs ++ [.ref t])) T0 = some (.lst ys) := by rw [upd_ne ne.symm]; exact hT
    refine ⟨_, rfl, r, C, dx, _, _, rfl, hr1, T.cl, T.nt, ro_taken _ _ _, .inl ⟨rfl, _, SqL.of hT1⟩, T0, ys, rfl, rfl, hT1, ?_⟩
    refine k _ (fun b o nb e => ?_) ?_ upd_same
    · rw [upd_ne fun z => nb (.inr z), upd_ne fun z => nb (.inl z)]
      exact e
    · rw [upd_ne ne]
      exact upd_same
theorem sc_Road_has_walker : FnScope ["self", "name", "action"] ["self", "name"] (defScope s_Road_has_walker) := ⟨rfl, rfl, rfl, by decide +kernel, rfl, by decide +kernel, by decide +kernel⟩
theorem ok_Road_has_walker {f C : Addr} {fd : FuncData} (F : Fun K "has_walker" "Road.has_walker" s_Road_has_walker f fd) (T : ClRo K mg C) : FnOk P w K mg base CX0 1 f fd ["self", "name"] (sp_has_walker K C) := by
  refine F.ok sc_Road_has_walker (fun vs H Q E h => ?_) (fun cdv A outer s H vs Q E hr h => ?_)
  · obtain ⟨r, D, T0, q, as, bs, M, n, rfl, _⟩ := h
    rfl
  · obtain ⟨r, D, T0, q, as, bs, M, n, rfl, R, k⟩ := h
    have nd := sc_Road_has_walker.nd
    obtain ⟨dx, hr0⟩ := R.ob
    obtain ⟨xs, hD, hA⟩ := R.dn
    have hlen := hA.len
    have few := R.fewA
    refine ⟨_, (pss_one (ps_ret (pe_cmpR op_in_seq (pv 1) (pe_lc (own := [("action", 2)]) (by rfl) nd (pi_list (pe_fld (pv 0) rfl)) (blkOk_by (N := ["self", "name", "action"]) (sc := defScope s_Road_has_walker) (own := [("action", 2)]) (by decide +kernel)) (fun _ _ _ _ _ => (pg_name (i := 2) nd rfl (.inl rfl))) (fun _ _ _ _ _ => (pts_one (pt_cmpR op_eq (pe_ix (ix_tupK K rfl) (pv 2) pe_int (fun _ _ => rfl)) pe_str (nomark _)))) (fun _ _ _ _ _ => (pe_ix (ix_tupK K rfl) (pv 2) pe_int (fun _ _ => rfl)))) rfl))), ?_⟩
    refine ⟨_, rfl, _, rfl, r, C, dx, _, _, rfl, hr0, T.cl, T.nd, ro_done _ _ _, D, rfl, ⟨_, SqL.of hD⟩, fun L nL => lc_list (K := K) (a := D) (xs := xs) (fun m H2 => Same H H2 ∧ H2 L = some (.lst ((namesOf (as.take m)).map V.str))) ⟨same_new nL, upd_same⟩ (fun m H2 _ z => SqL.of (z.1 _ _ hD)) ?_ fun H2 z => ?_⟩
    · rintro m x H2 hm ⟨s2, hL⟩
      obtain ⟨a, ha, hx⟩ := hA.get hm
      have ml : m < as.length := (List.getElem?_eq_some_iff.mp ha).1
      have nl : (namesOf (as.take m)).length ≤ m := by
        refine Nat.le_trans (List.length_filterMap_le _ _) ?_
        rw [List.length_take]
        omega
      refine ⟨rfl, ?_⟩
      cases a with
      | enter nm pl =>
        obtain ⟨t, rfl, ht⟩ := hx
        have ht2 := same_t (erM_le.trans s2) ht
        refine ⟨_, rfl, t, _, 0, _, rfl, rfl, ht2, rfl, rfl, _, rfl, iteS rfl ?_⟩
        refine ⟨_, rfl, t, _, 1, _, rfl, rfl, ht2, rfl, _, hL, sl_lt (by rw [List.length_map]; omega), same_mut s2 nL, ?_⟩
        rw [upd_same, take_snoc ha]
        unfold namesOf
        rw [List.filterMap_append, List.map_append]
        rfl
      | run nm d b =>
        obtain ⟨t, u, rfl, ht, _⟩ := hx
        have ht2 := same_t (erM_le.trans s2) ht
        have v_re : ¬ (V.str "run" = V.str "enter") := by decide +kernel
        refine ⟨_, rfl, t, _, 0, _, rfl, rfl, ht2, rfl, rfl, _, rfl, iteN v_re ?_⟩
        refine ⟨s2, ?_⟩
        rw [hL, take_snoc ha]
        unfold namesOf
        rw [List.filterMap_append]
        exact congrArg (fun l => some (HO.lst (List.map V.str l))) (List.append_nil _).symm
    · obtain ⟨s2, hL⟩ := z
      rw [hlen, List.take_length] at hL
      refine ⟨L, _, rfl, .inl (SqL.of hL), rfl, flat_strs _, ?_⟩
      have := k H2 s2
      show Q (.bl (inV (.str n) _)) H2
      rw [inV_strs]
      exact this
theorem sc_Road_enter : FnScope ["self", "name", "place"] ["self", "name", "place"] (defScope s_Road_enter) := ⟨rfl, rfl, rfl, by decide +kernel, rfl, by decide +kernel, by decide +kernel⟩
theorem ok_Road_enter {f C : Addr} {fd : FuncData} (F : Fun K "enter" "Road.enter" s_Road_enter f fd) (B : Blt mg) (T : ClRo K mg C) (C_is_name : Cal P w K mg base 1 "is_name" sp_is_name) (C_is_count : Cal P w K mg base 2 "is_count" sp_is_countZ) (M_has_walker : MetC CX0 P w K mg base C 1 "has_walker" (sp_has_walker K C)) (M_perform : MetC CX0 P w K mg base C 1 "perform" (sp_perform K C)) : FnOk P w K mg base CX0 3 f fd ["self", "name", "place"] (sp_enter K C) := by
  refine F.ok sc_Road_enter (fun vs H Q E h => ?_) (fun cdv A outer s H vs Q E hr h => ?_)
  · obtain ⟨r, D, T0, p, q, as, bs, M, n, pl, rfl, _⟩ := h
    rfl
  · obtain ⟨r, D, T0, p, q, as, bs, M, n, pl, rfl, R, mok, hn, nn, hpl, few, k⟩ := h
    have nd := sc_Road_enter.nd
    obtain ⟨dx, hr0⟩ := R.ob
    obtain ⟨xs, hD, hA⟩ := R.dn
    obtain ⟨ys, hT, hB⟩ := R.tb
    have hlen := hA.len
    have nl : n.length ≤ 100000 := by
      unfold nameOk at hn
      have := of_decide_eq_true (Bool.and_eq_true_iff.mp hn).1
      omega
    refine ⟨_, (pss_cons (ps_if (pt_not (pt_val (pe_c C_is_name hr (by decide) (by rfl) (pa_cons (pv 1) pa_nil))))
      (pss_one ps_never)
      pss_nil)
    (pss_cons (ps_if (pt_val (pe_meth (pv 0) T.cl M_has_walker.hm M_has_walker.ok (hr.mono (by decide)) M_has_walker.b .nil (E := E0) pass0 (pa_cons (pv 1) pa_nil)))
      (pss_one ps_never)
      pss_nil)
    (pss_cons (ps_if (pt_not (pt_val (pe_c C_is_count hr (by decide) (by rfl) (pa_cons (pv 2) pa_nil))))
      (pss_one ps_never)
      pss_nil)
    (pss_one (ps_expr (pe_meth (pv 0) T.cl M_perform.hm M_perform.ok (hr.mono (by decide)) M_perform.b .nil (E := E0) pass0 (pa_cons (pe_tup (pa_cons pe_str (pa_cons (pv 1) (pa_cons (pv 2) pa_nil)))) pa_nil))))))), ?_⟩
    refine ⟨_, rfl, n, rfl, nl, fun H1 s1 => ⟨_, rfl, ?_⟩⟩
    rw [hn]
    refine iteF ?_
    have R1 := R.same s1
    obtain ⟨dx1, hr1⟩ := R1.ob
    refine ⟨_, rfl, r, dx1, _, rfl, hr1, ro_no _ _ _ (by decide +kernel), _, rfl, r, D, T0, q, as, bs, M, n, rfl, R1, fun H2 s2 => ⟨_, rfl, ?_⟩⟩
    rw [decide_eq_false nn]
    refine iteF ?_
    refine ⟨_, rfl, pl, rfl, _, rfl, ?_⟩
    rw [decide_eq_true hpl]
    refine iteF ?_
    have s12 := s1.trans s2
    have hr2 := s2 _ _ hr1
    refine ⟨_, rfl, r, dx1, _, rfl, hr2, ro_no _ _ _ (by decide +kernel), _, rfl, _, rfl, sl_of (show 3 ≤ 1000000 by decide), fun t nt => ?_⟩
    have st := same_new nt (o := HO.tup [V.str "enter", V.str n, V.int pl])
    have s3 := s12.trans st
    have hD3 := s3 _ _ hD
    have hT3 := s3 _ _ hT
    refine ⟨r, D, T0, dx1, t, q, xs, ys, rfl, st _ _ hr2, hD3, hT3, R.ne, by omega, fun H4 k4 hD4 hT4 => ?_⟩
    have m3 := mok.same s3
    have k04 : Kst (Own2 D T0) H H4 := (Same.ks s3).trans k4
    refine k H4 k04 (m3.own k4 hD3 hT3 ⟨_, hD4⟩ ⟨_, hT4⟩) ?_
    have kM : Kst M H H4 := k04.sub fun b z => z.elim (fun e => e ▸ R.mD) fun e => e ▸ R.mT
    have nt' : ¬ M t := m3.notup upd_same
    refine ⟨⟨dx1, k4 _ _ (fun z => R.nr (z.elim (fun e => e ▸ R.mD) fun e => e ▸ R.mT)) (st _ _ hr2)⟩, ⟨_, hD4, paired_app (hA.same kM.er) (.cons ⟨t, rfl, SqT.of (erM_of nt' (k4 _ _ (fun z => nt' (z.elim (fun e => e ▸ R.mD) fun e => e ▸ R.mT)) upd_same))⟩ .nil)⟩, ⟨_, hT4, .nil⟩, R.mD, R.mT, R.nr, R.ne, by rw [List.length_append]; show as.length + 1 ≤ _; omega, Nat.zero_le _, R.lg.snoc ⟨?_, hpl⟩⟩
    rw [gS_none, R.lg.names.1]
    exact nn
theorem sc_Road_run : FnScope ["self", "name", "program"] ["self", "name", "program"] (defScope s_Road_run) := ⟨rfl, rfl, rfl, by decide +kernel, rfl, by decide +kernel, by decide +kernel⟩
theorem ok_Road_run {f C : Addr} {fd : FuncData} (F : Fun K "run" "Road.run" s_Road_run f fd) (B : Blt mg) (T : ClRo K mg C) (C_is_program : Cal P w K mg base 7 "is_program" (sp_is_program K)) (C_copied : Cal P w K mg base (3 + 0) "copied" (sp_copied K 3)) (M_has_walker : MetC CX0 P w K mg base C 1 "has_walker" (sp_has_walker K C)) (M_perform : MetC CX0 P w K mg base C 1 "perform" (sp_perform K C)) : FnOk P w K mg base CX0 8 f fd ["self", "name", "program"] (sp_run K C) := by
  refine F.ok sc_Road_run (fun vs H Q E h => ?_) (fun cdv A outer s H vs Q E hr h => ?_)
  · obtain ⟨r, D, T0, p, q, as, bs, M, n, u, d, b, rfl, _⟩ := h
    rfl
  · obtain ⟨r, D, T0, p, q, as, bs, M, n, u, d, b, rfl, R, mok, nn, hu, hp, po, few, k⟩ := h
    have nd := sc_Road_run.nd
    obtain ⟨dx, hr0⟩ := R.ob
    obtain ⟨xs, hD, hA⟩ := R.dn
    obtain ⟨ys, hT, hB⟩ := R.tb
    have hlen := hA.len
    refine ⟨_, (pss_cons (ps_if (pt_not (pt_val (pe_meth (pv 0) T.cl M_has_walker.hm M_has_walker.ok (hr.mono (by decide)) M_has_walker.b .nil (E := E0) pass0 (pa_cons (pv 1) pa_nil))))
      (pss_one ps_never)
      pss_nil)
    (pss_cons (ps_if (pt_not (pt_val (pe_c C_is_program hr (by decide) (by rfl) (pa_cons (pv 2) pa_nil))))
      (pss_one ps_never)
      pss_nil)
    (pss_one (ps_expr (pe_meth (pv 0) T.cl M_perform.hm M_perform.ok (hr.mono (by decide)) M_perform.b .nil (E := E0) pass0 (pa_cons (pe_tup (pa_cons pe_str (pa_cons (pv 1) (pa_cons (pe_c C_copied hr (by decide) (by rfl) (pa_cons (pv 2) pa_nil)) pa_nil)))) pa_nil)))))), ?_⟩
    refine ⟨_, rfl, r, dx, _, rfl, hr0, ro_no _ _ _ (by decide +kernel), _, rfl, r, D, T0, q, as, bs, M, n, rfl, R, fun H1 s1 => ⟨_, rfl, ?_⟩⟩
    rw [decide_eq_true nn]
    refine iteF ?_
    refine ⟨_, rfl, u, b, rfl, ⟨d, Dp.same s1 hu, hp⟩, po.dp, po.cp, po.np, po.rp, po.cn, po.sd, fun H2 s2 => ⟨_, rfl, iteF ?_⟩⟩
    have s12 := s1.trans s2
    have hr2 := s12 _ _ hr0
    refine ⟨_, rfl, r, dx, _, rfl, hr2, ro_no _ _ _ (by decide +kernel), _, rfl, _, rfl, u, d, b, rfl, Dp.same s12 hu, hp, po.dp, by decide, Nat.le_trans po.cn (by decide), fun v H3 s3 hv => ?_⟩
    refine ⟨sl_of (show 3 ≤ 1000000 by decide), fun t nt => ?_⟩
    have st := same_new nt (o := HO.tup [V.str "run", V.str n, v])
    have s03 := s12.trans s3
    have s4 := s03.trans st
    have hD4 := s4 _ _ hD
    have hT4 := s4 _ _ hT
    refine ⟨r, D, T0, dx, t, q, xs, ys, rfl, s4 _ _ hr0, hD4, hT4, R.ne, by omega, fun H5 k5 hD5 hT5 => ?_⟩
    have m4 := mok.same s4
    have k05 : Kst (Own2 D T0) H H5 := (Same.ks s4).trans k5
    refine k H5 k05 (m4.own k5 hD4 hT4 ⟨_, hD5⟩ ⟨_, hT5⟩) ?_
    have own : ∀ b, Own2 D T0 b → M b := fun b z => z.elim (fun e => e ▸ R.mD) fun e => e ▸ R.mT
    have kM : Kst M H H5 := k05.sub own
    have nt' : ¬ M t := m4.notup upd_same
    have m2 := mok.same s12
    obtain ⟨kvs, hpp⟩ := m2.dict
    have hv3 : Dp K (erM M H3) v d := m2.data (s3 _ _ hpp) hv
    have kM3 : Kst M H3 H5 := (Same.ks st).trans (k5.sub own)
    refine ⟨⟨dx, k05 _ _ (fun z => R.nr (own _ z)) hr0⟩, ⟨_, hD5, paired_app (hA.same kM.er) (.cons ⟨t, v, rfl, SqT.of (erM_of nt' (k5 _ _ (fun z => nt' (own _ z)) upd_same)), Dp.same kM3.er hv3, hp⟩ .nil)⟩, ⟨_, hT5, .nil⟩, R.mD, R.mT, R.nr, R.ne, by rw [List.length_append]; show as.length + 1 ≤ _; omega, Nat.zero_le _, R.lg.snoc ⟨?_, po, hp⟩⟩
    cases e : gS (stO as) n with
    | none =>
      rw [gS_none, R.lg.names.1] at e
      exact absurd nn e
    | some z => exact ⟨z, rfl⟩
theorem sc_Road_number_of : FnScope ["self", "moment"] ["self", "moment"] (defScope s_Road_number_of) := ⟨rfl, rfl, rfl, by decide +kernel, rfl, by decide +kernel, by decide +kernel⟩
theorem ok_Road_number_of {f C : Addr} {fd : FuncData} (F : Fun K "number_of" "Road.number_of" s_Road_number_of f fd) (B : Blt mg) (T : ClRo K mg C) (C_is_whole : Cal P w K mg base 1 "is_whole" (sp_is_whole K)) : FnOk P w K mg base CX0 2 f fd ["self", "moment"] (sp_number_of K C) := by
  refine F.ok sc_Road_number_of (fun vs H Q E h => ?_) (fun cdv A outer s H vs Q E hr h => ?_)
  · obtain ⟨r, D, T0, q, as, bs, M, v, n, rfl, _⟩ := h
    rfl
  · obtain ⟨r, D, T0, q, as, bs, M, v, n, rfl, R, hm, k⟩ := h
    have nd := sc_Road_number_of.nd
    obtain ⟨dx, hr0⟩ := R.ob
    obtain ⟨xs, hD, hA⟩ := R.dn
    have hlen := hA.len
    refine ⟨_, (pss_cons (ps_if (pt_cmpR op_isN (pv 1) pe_non (nomark _))
      (pss_one (ps_ret (pe_callB call_len_seq (by rfl) B.len (by decide +kernel) (pa_cons (pe_fld (pv 0) rfl) pa_nil))))
      pss_nil)
    (pss_cons (ps_if (PW.pt (pw_or (pt_not (pt_val (pe_c C_is_whole hr (by decide) (by rfl) (pa_cons (pv 1) pa_nil)))) (pw_or1 (pt_not (pt_chain op_le op_le pe_int (pv 1) (pe_callB call_len_seq (by rfl) B.len (by decide +kernel) (pa_cons (pe_fld (pv 0) rfl) pa_nil)))))))
      (pss_one ps_never)
      pss_nil)
    (pss_one (ps_ret (pv 1))))), ?_⟩
    rcases hm with ⟨rfl, rfl⟩ | ⟨rfl, hk⟩
    · refine ⟨_, rfl, rfl, _, rfl, iteT ?_⟩
      refine ⟨_, rfl, r, C, dx, _, _, rfl, hr0, T.cl, T.nd, ro_done _ _ _, D, _, rfl, .inl (SqL.of hD), ?_⟩
      rw [hlen]
      exact k
    · refine ⟨_, rfl, rfl, _, rfl, iteF ?_⟩
      refine ⟨_, rfl, .int n, .int n, rfl, .inl (.int _), _, rfl, iteF ?_⟩
      refine ⟨_, rfl, _, _, rfl, rfl, _, rfl, ?_⟩
      refine iteS (Int.natCast_nonneg n) ?_
      refine ⟨_, rfl, r, C, dx, _, _, rfl, hr0, T.cl, T.nd, ro_done _ _ _, D, _, rfl, .inl (SqL.of hD), _, _, rfl, rfl, _, rfl, ?_⟩
      have e : decide ((n : Int) ≤ ((xs.length : Nat) : Int)) = true := decide_eq_true (by omega)
      rw [e]
      exact iteF ⟨_, rfl, k⟩
theorem sc_Road_replayed : FnScope ["self", "first", "last", "standing", "terms", "at", "word", "name", "what"] ["self", "first", "last"] (defScope s_Road_replayed) := ⟨rfl, rfl, rfl, by decide +kernel, rfl, by decide +kernel, by decide +kernel⟩
theorem ok_Road_replayed {f C : Addr} {fd : FuncData} (F : Fun K "replayed" "Road.replayed" s_Road_replayed f fd) (B : Blt mg) (T : ClRo K mg C) (C_terms_of : Cal P w K mg base (3 + 3) "terms_of" (sp_terms_ofS K 3)) (C_shift_of : Cal P w K mg base (3 + 0) "shift_of" (sp_shift_of K 3)) : FnOk P w K mg base CX0 7 f fd ["self", "first", "last"] (sp_replayed K C) := by
  refine F.ok sc_Road_replayed (fun vs H Q E h => ?_) (fun cdv A outer s H vs Q E hr h => ?_)
  · obtain ⟨r, D, T0, q, as, bs, M, i, k, rfl, _⟩ := h
    rfl
  · obtain ⟨r, D, T0, q, as, bs, M, i, k, rfl, R, hk, go⟩ := h
    have nd := sc_Road_replayed.nd
    have hu := hu_of hr
    obtain ⟨dx, hr0⟩ := R.ob
    obtain ⟨xs, hD, hA⟩ := R.dn
    have hlen := hA.len
    have few := R.fewA
    refine ⟨_, (pss_cons (ps_set (i := 3) nd rfl (.inl rfl) pe_dnewK)
    (pss_cons (ps_set (i := 4) nd rfl (.inl rfl) (pe_lst pa_nil))
    (pss_cons (ps_for PassesOwn.never rfl (pi_enum (by rfl) B.enumerate (pa_cons (pe_slice sl_list (pe_fld (pv 0) rfl) po_none (po_some (pv 2))) pa_nil)) (pg_tup rfl (pgs_cons (pg_name (i := 5) nd rfl (.inl rfl)) (pgs_cons (pg_tup rfl (pgs_cons (pg_name (i := 6) nd rfl (.inl rfl)) (pgs_cons (pg_name (i := 7) nd rfl (.inl rfl)) (pgs_cons (pg_name (i := 8) nd rfl (.inl rfl)) pgs_nil)))) pgs_nil)))
      (pss_cons (ps_if (pt_cmpR op_eq (pv 6) pe_str (nomark _))
      (pss_cons (ps_dput hu (pv 3) (pv 7) (pv 8) rfl)
    (pss_one ps_continue))
      pss_nil)
    (pss_cons (ps_cut (ps_if (pt_cmpR op_ge (pv 5) (pv 1) (nomark _))
      (pss_one (ps_expr (pe_bm PySem.F.plainAttrs_list PySem.F.slot_list_extend PySem.F.type_list_extend mt_extend (pv 4) (pa_cons (pe_c C_terms_of hr (by decide) (by rfl) (pa_cons (pv 8) (pa_cons (pe_dget hu (pv 3) (pv 7) (fun _ _ => rfl)) pa_nil))) pa_nil))))
      pss_nil))
    (pss_one (ps_daug hu (pv 3) (pv 7) (pe_c C_shift_of hr (by decide) (by rfl) (pa_cons (pv 8) pa_nil)) in_add (fun _ _ _ => rfl))))))
    (pss_one (ps_ret (pe_tup (pa_cons (pv 3) (pa_cons (pv 4) pa_nil)))))))), ?_⟩
    refine fun S nS => ?_
    have z1 := same_new nS (o := HO.dK [])
    refine ⟨Nat.zero_le _, fun L nL => ?_⟩
    have z2 := same_new nL (o := HO.lst [])
    have SL : S ≠ L := ne_of_none upd_same nL
    have nL0 : H L = none := none_before z1 nL
    have z12 := z1.trans z2
    refine ⟨_, rfl, r, C, dx, _, _, rfl, z12 _ _ hr0, T.cl, T.nd, ro_done _ _ _, _, rfl, (k : Int), rfl, D, xs, rfl, SqL.of (z12 _ _ hD), fun W nW => ?_⟩
    have z3 := same_new nW (o := HO.lst (cutV xs none (some (k : Int))))
    have hW : upd (upd (upd H S (.dK [])) L (.lst [])) W (.lst (cutV xs none (some (k : Int)))) W = some (.lst (xs.take k)) := by rw [upd_same, cutV_head]
    have hS3 := z3 _ _ (show upd (upd H S (.dK [])) L (.lst []) S = some (.dK (stK (stO (as.take 0)))) by rw [upd_ne SL, upd_same]; rfl)
    have hL3 := z3 _ _ (upd_same (a := L) (o := HO.lst []))
    have nW0 : H W = none := none_before z12 nW
    have WS : W ≠ S := fun z => by
      rw [z] at nW
      rw [upd_ne SL, upd_same] at nW
      cases nW
    have WL : W ≠ L := fun z => by
      rw [z, upd_same] at nW
      cases nW
    have z13 := z12.trans z3
    generalize upd (upd (upd H S (.dK [])) L (.lst [])) W (.lst (cutV xs none (some (k : Int)))) = H3 at z13 hW hS3 hL3
    have tl : (xs.take k).length = k := by
      rw [List.length_take]
      omega
    refine ⟨W, _, rfl, SqL.of hW, for_it (walk_enum (K := K) (a := W) (xs := xs.take k)) (fun j σ H4 => ∃ (y5 y6 y7 y8 : Option V) (ys : List V) (ts : List Tm), σ = [some (.ref r), some (.int i), some (.int k), some (.ref S), some (.ref L), y5, y6, y7, y8] ∧ Same H H4 ∧ H4 W = some (.lst (xs.take k)) ∧ H4 S = some (.dK (stK (stO (as.take j)))) ∧ H4 L = some (.lst ys) ∧ TVs K H4 ys ts ∧ (∀ x, tvs ts x = dlT i as j x) ∧ (∀ t ∈ ts, TOk 3 bigT 0 t) ∧ ts.length ≤ cnT i as j ∧ ∀ t ∈ ts, ∃ n d b, Act.run n d b ∈ as ∧ ∀ y, sct y t.rs ≤ (sdP b).count y) ⟨none, none, none, none, [], [], rfl, z13, hW, hS3, hL3, .nil, fun x => rfl, fun t h => absurd h List.not_mem_nil, Nat.zero_le _, fun t h => absurd h List.not_mem_nil⟩ ?_ ?_ ?_⟩
    · rintro j σ H4 _ ⟨y5, y6, y7, y8, ys, ts, _, _, hW4, _⟩
      exact SqL.of hW4
    · rintro j v σ H4 _ hj ⟨y5, y6, y7, y8, ys, ts, rfl, s4, hW4, hS4, hL4, hT4, val, ok, tlen, sd⟩ ⟨e, x, y, rfl, ne, rfl, hx, hy⟩
      obtain rfl : x = V.int (j : Int) := (Option.some.inj hx).symm
      have hy2 : xs[j]? = some y := by
        have hy : (xs.take k)[j]? = some y := hy
        rw [List.getElem?_take] at hy
        split at hy
        · exact hy
        · cases hy
      obtain ⟨a, ha, hav⟩ := hA.get hy2
      have jl : j < as.length := (List.getElem?_eq_some_iff.mp ha).1
      have se := same_new ne (o := HO.tup [V.int (j : Int), y])
      have hav4 := hav.same (erM_le.trans (s4.trans se))
      have step := R.lg j a ha
      obtain ⟨names, nodup⟩ := (R.lg.take j).names
      have next := stO_snoc ha
      have mlen : (stO (as.take j)).length ≤ 1000 := by
        have h1 : (stO (as.take j)).length = (namesOf (as.take j)).length := by rw [← names, List.length_map]
        have h2 : (namesOf (as.take j)).length ≤ (as.take j).length := List.length_filterMap_le _ _
        rw [List.length_take] at h2
        omega
      have yl := hT4.len
      have tfew : ts.length ≤ 100 * 1000 := by
        have := cnT_few R.lg i j
        omega
      cases a with
      | enter n pl =>
        obtain ⟨t, rfl, ht⟩ := hav4
        refine ⟨e, _, rfl, SqT.of upd_same, rfl, _, _, rfl, _, _, rfl, t, _, rfl, ht, rfl, _, _, rfl, _, _, rfl, _, _, rfl, rfl, rfl, ?_⟩
        refine ⟨_, rfl, rfl, _, rfl, iteS rfl ?_⟩
        have hS5 := se _ _ hS4
        refine ⟨_, rfl, _, rfl, _, rfl, S, _, rfl, DPut.k (k := (Sum.inr n : Key)) hS5 (by rw [stK_len]; exact sl_lt (by omega)), ?_⟩
        rw [stK_put nodup]
        have tS := tp_dK hS5 (o := HO.dK (stK (pS (stO (as.take j)) n pl)))
        have dl : ∀ x, dlT i as (j + 1) x = dlT i as j x := fun x => by
          show dlT i as j x + dlC i as j x = _
          unfold dlC
          rw [ha]
          exact Int.add_zero _
        refine ⟨_, _, _, _, ys, ts, rfl, same_mut (s4.trans se) nS, by rw [upd_ne WS]; exact se _ _ hW4, by rw [upd_same, next]; rfl, by rw [upd_ne SL.symm]; exact se _ _ hL4, hT4.tp ((Same.tp se).trans tS), fun x => by rw [dl, val], ok, Nat.le_trans tlen (Nat.le_add_right _ _), sd⟩
      | run n d b =>
        obtain ⟨t, u, rfl, ht0, hu0, hp5⟩ := hav.same erM_le
        have ht := same_t (s4.trans se) ht0
        have hu5 := Dp.same (s4.trans se) hu0
        refine ⟨e, _, rfl, SqT.of upd_same, rfl, _, _, rfl, _, _, rfl, t, _, rfl, ht, rfl, _, _, rfl, _, _, rfl, _, _, rfl, rfl, rfl, ?_⟩
        have v_re : ¬ (V.str "run" = V.str "enter") := by decide +kernel
        refine ⟨_, rfl, rfl, _, rfl, iteN v_re ?_⟩
        obtain ⟨⟨z, hz⟩, po, _⟩ := step
        have pv5 : PV K (upd H4 e (.tup [V.int (j : Int), V.ref t])) u b := ⟨d, hu5, hp5⟩
        have len5 : b.length ≤ 1024 := Nat.le_trans (len_cnP b) (Nat.le_trans po.cn (by decide))
        have far := R.lg.far (j := j) (by omega) few _ (gS_mem hz)
        have far : z.natAbs ≤ 2 ^ 318 := far
        have tr6 := po.tr
        have hS5 := se _ _ hS4
        have hL5 := se _ _ hL4
        have hW5 := se _ _ hW4
        have hT5 := hT4.tp (Same.tp se)
        have s5 := s4.trans se
        have get5 : valV (stK (stO (as.take j))) (Sum.inr n) = some (.int z) := by rw [stK_val, hz]; rfl
        generalize upd H4 e (.tup [V.int (j : Int), V.ref t]) = H5 at pv5 hS5 hL5 hW5 hT5 s5
        refine ⟨fun σ H6 => ∃ (ys' : List V) (ts' : List Tm), σ = [some (.ref r), some (.int i), some (.int k), some (.ref S), some (.ref L), some (.int j), some (.str "run"), some (.str n), some u] ∧ Same H H6 ∧ H6 W = some (.lst (xs.take k)) ∧ H6 S = some (.dK (stK (stO (as.take j)))) ∧ H6 L = some (.lst ys') ∧ TVs K H6 ys' ts' ∧ (∀ x, tvs ts' x = dlT i as (j + 1) x) ∧ (∀ t ∈ ts', TOk 3 bigT 0 t) ∧ ts'.length ≤ cnT i as (j + 1) ∧ (∀ t ∈ ts', ∃ n d b, Act.run n d b ∈ as ∧ ∀ y, sct y t.rs ≤ (sdP b).count y) ∧ PV K H6 u b, ?_, ?_⟩
        · refine ⟨_, rfl, _, rfl, _, _, rfl, rfl, _, rfl, ite2 (fun ge => ?_) fun ge => ?_⟩
          · have ge : (i : Int) ≤ (j : Int) := of_decide_eq_true ge
            refine ⟨_, rfl, .inl ⟨rfl, _, SqL.of hL5⟩, _, rfl, _, rfl, _, rfl, S, .int z, rfl, .inl ⟨_, (Sum.inr n : Key), .inl hS5, rfl, get5.symm⟩, u, z, b, rfl, pv5, po.dp, by decide, po.w, po.np, Nat.le_trans po.cn (by decide), fun D2 ys2 ts2 H6 s6 nD2 hD2 hT2 val2 ok2 len2 sd2 => ?_⟩
            have hL6 := s6 _ _ hL5
            have y2l := hT2.len
            have pc := po.cn
            refine ⟨L, D2, ys, ys2, rfl, rfl, hL6, hD2, sl_of (show ys.length + ys2.length ≤ 1000000 by omega), ?_⟩
            have tL := tp_lst hL6 (o := HO.lst (ys ++ ys2))
            have dl : ∀ x, dlT i as (j + 1) x = dlT i as j x + seP b (x - z) := fun x => by
              show dlT i as j x + dlC i as j x = _
              unfold dlC
              rw [ha]
              show dlT i as j x + (if i ≤ j then seP b (x - (gS (stO (as.take j)) n).getD 0) else 0) = _
              rw [if_pos (by omega), hz]
              rfl
            have cn : cnT i as (j + 1) = cnT i as j + cnP b := by
              show cnT i as j + cnC i as j = _
              unfold cnC
              rw [ha]
              show cnT i as j + (if i ≤ j then cnP b else 0) = _
              rw [if_pos (by omega)]
            refine ⟨ys ++ ys2, ts ++ ts2, rfl, same_mut (s5.trans s6) nL0, by rw [upd_ne WL]; exact s6 _ _ hW5, by rw [upd_ne SL]; exact s6 _ _ hS5, upd_same, TVs.app (hT5.tp ((Same.tp s6).trans tL)) (hT2.tp tL), fun x => ?_, fun t ht => ?_, ?_, fun t ht => ?_, ?_⟩
            · rw [tvs_app, val, val2, dl]
            · rcases List.mem_append.mp ht with h | h
              · exact ok t h
              · obtain ⟨o1, o2, o3, o4⟩ := ok2 t h
                refine ⟨?_, o2, o3, o4⟩
                have c0 : (2 : Int) ^ 306 = ((2 ^ 306 : Nat) : Int) := by decide +kernel
                have c1 : bigT = ((2 ^ 320 : Nat) : Int) := by decide +kernel
                have c2 : (2 : Nat) ^ 318 + 2 ^ 306 ≤ 2 ^ 320 := by decide +kernel
                rw [c1]
                rw [c0] at tr6
                generalize (2 : Nat) ^ 318 = B1 at far c2
                generalize (2 : Nat) ^ 306 = B2 at tr6 c2
                generalize (2 : Nat) ^ 320 = B3 at c2 ⊢
                omega
            · rw [List.length_append, cn]
              omega
            · rcases List.mem_append.mp ht with h | h
              · exact sd t h
              · exact ⟨n, d, b, List.mem_of_getElem? ha, sd2 t h⟩
            · exact ⟨d, Dp.same (same_mut (s5.trans s6) nL0) hu0, hp5⟩
          · have lt : ¬ i ≤ j := fun z => ge (decide_eq_true (by omega))
            have dl : ∀ x, dlT i as (j + 1) x = dlT i as j x := fun x => by
              show dlT i as j x + dlC i as j x = _
              unfold dlC
              rw [ha]
              show dlT i as j x + (if i ≤ j then seP b (x - (gS (stO (as.take j)) n).getD 0) else 0) = _
              rw [if_neg lt]
              exact Int.add_zero _
            exact ⟨ys, ts, rfl, s5, hW5, hS5, hL5, hT5, fun x => by rw [dl, val], ok, Nat.le_trans tlen (Nat.le_add_right _ _), sd, pv5⟩
        rintro σ H6 ⟨ys6, ts6, rfl, s6, hW6, hS6, hL6, hT6, val6, ok6, len6, sd6, pv6⟩
        refine ⟨_, rfl, _, rfl, S, .int z, rfl, .inl ⟨_, (Sum.inr n : Key), .inl hS6, rfl, get5.symm⟩, _, rfl, u, b, rfl, pv6, po.dp, by decide, po.w, len5, z, shP b, rfl, rfl, _, DPut.k (k := (Sum.inr n : Key)) hS6 (by rw [stK_len]; exact sl_lt (by omega)), ?_⟩
        rw [stK_put nodup]
        have tS := tp_dK hS6 (o := HO.dK (stK (pS (stO (as.take j)) n (z + shP b))))
        refine ⟨_, _, _, _, ys6, ts6, rfl, same_mut s6 nS, by rw [upd_ne WS]; exact hW6, ?_, by rw [upd_ne SL.symm]; exact hL6, hT6.tp tS, val6, ok6, len6, sd6⟩
        rw [upd_same, next]
        show _ = some (HO.dK (stK (pS (stO (as.take j)) n ((gS (stO (as.take j)) n).getD 0 + shP b))))
        rw [hz]
        rfl
    · rintro σ H4 ⟨y5, y6, y7, y8, ys, ts, rfl, s4, hW4, hS4, hL4, hT4, val, ok, tlen, sd⟩
      rw [tl] at hS4 val tlen
      refine ⟨_, rfl, _, rfl, sl_of (show 2 ≤ 1000000 by decide), fun t nt => ?_⟩
      have st := same_new nt (o := HO.tup [V.ref S, V.ref L])
      exact go t S L ys ts _ (s4.trans st) (SqT.of upd_same) nS nL0 (st _ _ hS4) (st _ _ hL4) (hT4.tp (Same.tp st)) val ok tlen sd
theorem sc_Road_dial : FnScope ["self", "place", "moment", "terms"] ["self", "place", "moment"] (defScope s_Road_dial) := ⟨rfl, rfl, rfl, by decide +kernel, rfl, by decide +kernel, by decide +kernel⟩
theorem ok_Road_dial {f C : Addr} {fd : FuncData} (F : FunD K "dial" "Road.dial" (defArgs s_Road_dial) (defBody s_Road_dial) (defScope s_Road_dial) [.non] [] f fd) (B : Blt mg) (T : ClRo K mg C) (C_value_of : Cal P w K mg base 4 "value_of" (sp_value_of K)) (M_number_of : MetC CX0 P w K mg base C 2 "number_of" (sp_number_of K C)) (M_replayed : MetC CX0 P w K mg base C 7 "replayed" (sp_replayed K C)) : FnOk P w K mg base CX0 8 f fd ["self", "place", "moment"] (sp_dial K C) := by
  refine F.ok sc_Road_dial (fun vs H Q E h => ?_) (fun cdv A outer s H vs Q E hr h => ?_)
  · obtain ⟨r, D, T0, q, as, bs, M, x, v, n, rfl, _⟩ := h
    rfl
  · obtain ⟨r, D, T0, q, as, bs, M, x, v, n, rfl, R, hq, hm, hx, k⟩ := h
    have nd := sc_Road_dial.nd
    obtain ⟨dx, hr0⟩ := R.ob
    have few := R.fewA
    have nl : n ≤ as.length := by
      rcases hm with ⟨_, e⟩ | ⟨_, e⟩ <;> omega
    refine ⟨_, (pss_cons (ps_set (i := 3) nd rfl (.inl rfl) (pe_ix ix_tup (pe_meth (pv 0) T.cl M_replayed.hm M_replayed.ok (hr.mono (by decide)) M_replayed.b .nil (E := E0) pass0 (pa_cons pe_int (pa_cons (pe_meth (pv 0) T.cl M_number_of.hm M_number_of.ok (hr.mono (by decide)) M_number_of.b .nil (E := E0) pass0 (pa_cons (pv 2) pa_nil)) pa_nil))) pe_int (fun _ _ => rfl)))
    (pss_one (ps_ret (pe_c C_value_of hr (by decide) (by rfl) (pa_cons (pe_fld (pv 0) rfl) (pa_cons (pv 3) (pa_cons (pv 1) pa_nil))))))), ?_⟩
    refine ⟨_, rfl, r, dx, _, rfl, hr0, ro_no _ _ _ (by decide +kernel), _, rfl, r, dx, _, rfl, hr0, ro_no _ _ _ (by decide +kernel), _, rfl, r, D, T0, q, as, bs, M, v, n, rfl, R, hm, ?_⟩
    refine ⟨r, D, T0, q, as, bs, M, 0, n, rfl, R, nl, fun t S L ys ts H1 s1 ht _ _ _ hL hT val ok few1 _ => ?_⟩
    refine ⟨t, _, 1, _, rfl, rfl, ht, rfl, ?_⟩
    have hr1 := s1 _ _ hr0
    have cf := cnT_few R.lg 0 n
    refine ⟨_, rfl, r, C, dx, _, _, rfl, hr1, T.cl, T.np, ro_prime _ _ _, _, rfl, _, rfl, q, L, ys, ts, x, 0, bigT, rfl, hq, SqL.of hL, hT, by omega, ok, by decide +kernel, by rw [Int.sub_zero]; exact hx, fun H2 s2 => ?_⟩
    rw [val]
    exact k H2 (s1.trans s2)
theorem sc_Road_places : FnScope ["self", "moment", "number", "standing", "name"] ["self", "moment"] (defScope s_Road_places) := ⟨rfl, rfl, rfl, by decide +kernel, rfl, by decide +kernel, by decide +kernel⟩
theorem ok_Road_places {f C : Addr} {fd : FuncData} (F : FunD K "places" "Road.places" (defArgs s_Road_places) (defBody s_Road_places) (defScope s_Road_places) [.non] [] f fd) (B : Blt mg) (T : ClRo K mg C) (M_number_of : MetC CX0 P w K mg base C 2 "number_of" (sp_number_of K C)) (M_replayed : MetC CX0 P w K mg base C 7 "replayed" (sp_replayed K C)) : FnOk P w K mg base CX0 8 f fd ["self", "moment"] (sp_places K C) := by
  refine F.ok sc_Road_places (fun vs H Q E h => ?_) (fun cdv A outer s H vs Q E hr h => ?_)
  · obtain ⟨r, D, T0, q, as, bs, M, v, n, rfl, _⟩ := h
    rfl
  · obtain ⟨r, D, T0, q, as, bs, M, v, n, rfl, R, hm, few4, k⟩ := h
    have nd := sc_Road_places.nd
    have hu := hu_of hr
    obtain ⟨dx, hr0⟩ := R.ob
    have few := R.fewA
    have nl : n ≤ as.length := by
      rcases hm with ⟨_, e⟩ | ⟨_, e⟩ <;> omega
    refine ⟨_, (pss_cons (ps_set (i := 2) nd rfl (.inl rfl) (pe_meth (pv 0) T.cl M_number_of.hm M_number_of.ok (hr.mono (by decide)) M_number_of.b .nil (E := E0) pass0 (pa_cons (pv 1) pa_nil)))
    (pss_cons (ps_set (i := 3) nd rfl (.inr rfl) (pe_ix ix_tup (pe_meth (pv 0) T.cl M_replayed.hm M_replayed.ok (hr.mono (by decide)) M_replayed.b .nil (E := E0) pass0 (pa_cons (pv 2) (pa_cons (pv 2) pa_nil))) pe_int (fun _ _ => rfl)))
    (pss_one (ps_ret (pe_dc (own := [("name", 4)]) (by rfl) nd (pi_list (pe_callB (call_sortedD rfl) (by rfl) B.sorted (by decide +kernel) (pa_cons (pv 3) pa_nil))) (blkOk_by (N := ["self", "moment", "number", "standing", "name"]) (sc := defScope s_Road_places) (own := [("name", 4)]) (by decide +kernel)) (fun _ _ _ _ _ => (pg_name (i := 4) nd rfl (.inl rfl))) (fun _ _ _ _ _ => pts_nil) (fun _ _ _ _ _ => (pv 4)) (fun _ _ _ _ _ => (pe_dget hu (pv 3) (pv 4) (fun _ _ => rfl)))))))), ?_⟩
    refine ⟨_, rfl, r, dx, _, rfl, hr0, ro_no _ _ _ (by decide +kernel), _, rfl, r, D, T0, q, as, bs, M, v, n, rfl, R, hm, ?_⟩
    refine ⟨_, rfl, r, dx, _, rfl, hr0, ro_no _ _ _ (by decide +kernel), _, rfl, _, rfl, r, D, T0, q, as, bs, M, n, n, rfl, R, nl, fun t S L ys ts H1 s1 ht nS _ hS _ _ _ _ _ _ => ?_⟩
    refine ⟨t, _, 0, _, rfl, rfl, ht, rfl, ?_⟩
    obtain ⟨names, nodup⟩ := (R.lg.take n).names
    generalize stO (as.take n) = m at few4 hS names nodup k
    have keys : (stK m).map (·.1) = (m.map (·.1)).map Sum.inr := by
      unfold stK
      rw [List.map_map, List.map_map]
      rfl
    refine ⟨_, rfl, S, stK m, m.map (·.1), rfl, .inl hS, keys, by rw [List.length_map]; exact few4, fun ns W perm sorted nW => ?_⟩
    have sW := same_new nW (o := HO.lst (ns.map V.str))
    have hW : upd H1 W (.lst (ns.map V.str)) W = some (.lst (ns.map V.str)) := upd_same
    have hS2 := sW _ _ hS
    have s2 := s1.trans sW
    generalize upd H1 W (.lst (ns.map V.str)) = H2 at hW hS2 s2
    have nnd : ns.Nodup := perm.nodup_iff.mpr nodup
    refine ⟨W, rfl, ⟨_, SqL.of hW⟩, fun Z nZ => ?_⟩
    refine ⟨fun u c H3 => c = ns.length - u ∧ u ≤ ns.length ∧ Same H2 H3 ∧ H3 Z = some (.dK (stK ((ns.take u).map fun n => (n, (gS m n).getD 0)))), ⟨_, rfl, Nat.zero_le _, same_new nZ, upd_same⟩, ?_⟩
    rintro u _ H3 ⟨rfl, hu3, s3, hZ⟩
    have hW3 : SqL K H3 W (ns.map V.str) := SqL.of (s3 _ _ hW)
    by_cases more : u < ns.length
    · have at3 : (ns.map V.str)[u]? = some (V.str ns[u]) := by rw [List.getElem?_map, List.getElem?_eq_getElem more]; rfl
      refine .inr ⟨⟨_, _, hW3, at3⟩, fun H' => Same H2 H' ∧ H' Z = some (.dK (stK ((ns.take (u + 1)).map fun n => (n, (gS m n).getD 0)))), fun H' z => ⟨_, (show ns.length - (u + 1) < ns.length - u by omega), rfl, more, z.1, z.2⟩, fun x H' y => ?_⟩
      obtain ⟨e, y⟩ := y
      subst e
      have hx := y _ hW3
      rw [at3] at hx
      cases hx
      have mem : ns[u] ∈ m.map (·.1) := perm.mem_iff.mp (List.getElem_mem more)
      obtain ⟨z, hz⟩ : ∃ z, gS m ns[u] = some z := by
        cases e : gS m ns[u] with
        | none => exact absurd mem (gS_none.mp e)
        | some z => exact ⟨z, rfl⟩
      have hS3 := s3 _ _ hS2
      refine ⟨rfl, _, rfl, _, rfl, _, rfl, S, .int z, rfl, .inl ⟨_, (Sum.inr ns[u] : Key), .inl hS3, rfl, by rw [stK_val, hz]; rfl⟩, _, (Sum.inr ns[u] : Key), rfl, hZ, ?_, same_mut s3 nZ, ?_⟩
      · rw [stK_len, List.length_map, List.length_take]
        have := perm.length_eq
        rw [List.length_map] at this
        exact sl_lt (by omega)
      · have keyd : (((ns.take u).map fun n => (n, (gS m n).getD 0)).map (·.1)) = ns.take u := by
          rw [List.map_map]
          exact List.map_id _
        rw [upd_same, stK_put (by rw [keyd]; exact nnd.sublist (List.take_sublist _ _)), take_snoc (List.getElem?_eq_getElem more), List.map_append]
        have new : gS ((ns.take u).map fun n => (n, (gS m n).getD 0)) ns[u] = none := by
          rw [gS_none, keyd]
          intro h
          have h1 : (ns.take (u + 1)).Nodup := nnd.sublist (List.take_sublist _ _)
          rw [take_snoc (List.getElem?_eq_getElem more), List.nodup_append] at h1
          exact h1.2.2 _ h _ List.mem_cons_self rfl
        rw [pS_new new]
        have e2 : (ns[u], z) = (ns[u], (gS m ns[u]).getD 0) := by rw [hz]; rfl
        rw [e2]
        rfl
    · have e : u = ns.length := by omega
      subst e
      rw [List.take_length] at hZ
      refine .inl ⟨⟨_, hW3, by rw [List.length_map]; exact Nat.le_refl _⟩, ?_⟩
      exact k Z ns H3 (s2.trans s3) (none_before s2 nZ) perm sorted hZ
theorem no_attr {C : Addr} {f : Str} (h : PySem.W.findIn K (.ref C) f = some none) : NoAttr K C f := h
structure RoRaw (K : PySem.W.Frag) (mg : Str → Option Value) (C : Addr) : Prop where
  cl : ClRo K mg C
  mkr : ∃ f fd, Mk K C f ∧ Fun K "__init__" "Road.__init__" s_Road___init__ f fd
  m_perform : DfM K C "perform" "Road.perform" s_Road_perform
  m_has_walker : DfM K C "has_walker" "Road.has_walker" s_Road_has_walker
  m_enter : DfM K C "enter" "Road.enter" s_Road_enter
  m_run : DfM K C "run" "Road.run" s_Road_run
  m_number_of : DfM K C "number_of" "Road.number_of" s_Road_number_of
  m_replayed : DfM K C "replayed" "Road.replayed" s_Road_replayed
  m_dial : DfD K C "dial" "Road.dial" s_Road_dial [.non]
  m_places : DfD K C "places" "Road.places" s_Road_places [.non]
theorem mkRo_of {C : Addr} (R : RoRaw K mg C) : MkF P w K mg base "Road" C 1 (sp_road C) := ⟨by
  obtain ⟨f, fd, M, F⟩ := R.mkr
  exact ⟨f, fd, ["self", "prime"], M, ok_Road___init__ F R.cl, F.binds fun _ _ _ _ _ _ us hl => match us, hl with | [_, _], _ => rfl⟩, R.cl.gl⟩
theorem sc_is_whole : FnScope ["value"] ["value"] (defScope s_is_whole) := ⟨rfl, rfl, rfl, by decide +kernel, rfl, by decide +kernel, by decide +kernel⟩
theorem ok_is_whole {f : Addr} {fd : FuncData} (F : Fun K "is_whole" "is_whole" s_is_whole f fd) (B : Blt mg) : FnOk P w K mg base CX0 1 f fd ["value"] (sp_is_whole K) := by
  refine F.ok sc_is_whole (fun vs H Q E h => ?_) (fun cdv A outer s H vs Q E hr h => ?_)
  · obtain ⟨v, d, rfl, _⟩ := h
    rfl
  · obtain ⟨v, d, rfl, hd, k⟩ := h
    refine ⟨_, (pss_one (ps_ret (pe_and (pe_callB call_isi (by rfl) B.isinstance (by decide +kernel) (pa_cons (pv 0) (pa_cons (pe_bltn (v := .ty "int") (u := .type "int") (by rfl) B.int (by decide +kernel) rfl) pa_nil))) (pe_one (pe_not (pe_callB call_isi (by rfl) B.isinstance (by decide +kernel) (pa_cons (pv 0) (pa_cons (pe_bltn (v := .ty "bool") (u := .type "bool") (by rfl) B.bool (by decide +kernel) rfl) pa_nil)))))))), ?_⟩
    refine ⟨_, rfl, v, .ty "int", _, _, _, rfl, .ty "int", DpX.ty hd, kit_int d, _, rfl, ?_⟩
    refine ite2 (fun h => ?_) (fun h => ?_)
    · refine ⟨_, rfl, v, .ty "bool", _, _, _, rfl, .ty "bool", DpX.ty hd, kit_bool d, _, rfl, ?_⟩
      have e : (!isBool d) = isWhole d := by
        cases d <;> first | rfl | cases h
      rw [e]
      exact k
    · have e : isWhole d = false := by
        cases d <;> first | rfl | exact absurd rfl h
      rw [e] at k
      exact k
theorem sc_common_divisor : FnScope ["one", "other", "divisor", "rest", "factor", "following", "quotient"] ["one", "other"] (defScope s_common_divisor) := ⟨rfl, rfl, rfl, by decide +kernel, rfl, by decide +kernel, by decide +kernel⟩
structure CdInv (a b D R X Y : Int) : Prop where
  d0 : 0 < D
  r0 : 0 ≤ R
  dm : D.natAbs < 2 ^ 400
  rm : R.natAbs < 2 ^ 400
  x1 : b ∣ a * X - D
  y1 : b ∣ a * Y - R
  cd : ∀ c, c ∣ D → c ∣ R → c ∣ a ∧ c ∣ b
  det : (X.natAbs : Int) * R + (Y.natAbs : Int) * D = b
  opp : (0 ≤ X ∧ Y ≤ 0) ∨ (X ≤ 0 ∧ 0 ≤ Y)
  xb : X.natAbs ≤ b.natAbs
theorem CdInv.yb {a b D R X Y : Int} (h : CdInv a b D R X Y) : Y.natAbs ≤ b.natAbs := by
  have h1 := h.det
  have h2 : 0 ≤ (X.natAbs : Int) * R := Int.mul_nonneg (by omega) h.r0
  have h3 : (Y.natAbs : Int) * 1 ≤ (Y.natAbs : Int) * D := Int.mul_le_mul_of_nonneg_left (by have := h.d0; omega) (by omega)
  rw [Int.mul_one] at h3
  omega
theorem CdInv.step {a b D R X Y : Int} (h : CdInv a b D R X Y) (hR : R ≠ 0) : CdInv a b R (D - D / R * R) Y (X - D / R * Y) := by
  have hr := h.r0
  have hrp : 0 < R := by omega
  have hmod : D - D / R * R = D % R := by
    have := Int.emod_add_mul_ediv D R
    rw [Int.mul_comm R] at this
    omega
  have m0 := Int.emod_nonneg D hR
  have m1 := Int.emod_lt_of_pos D hrp
  have q0 : 0 ≤ D / R := Int.ediv_nonneg (by have := h.d0; omega) hr
  refine ⟨hrp, by omega, h.rm, by have := h.rm; omega, h.y1, ?_, fun c c1 c2 => ?_, ?_, ?_, h.yb⟩
  · have e : a * (X - D / R * Y) - (D - D / R * R) = (a * X - D) - D / R * (a * Y - R) := by
      rw [Int.mul_sub, Int.mul_sub, ← Int.mul_assoc a, ← Int.mul_assoc (D / R) a, Int.mul_comm a (D / R)]
      omega
    rw [e]
    exact Int.dvd_sub h.x1 (Int.dvd_mul_of_dvd_right h.y1)
  · refine h.cd c ?_ c1
    have := Int.dvd_add c2 (Int.dvd_trans c1 (Int.dvd_mul_left (D / R) R))
    rw [Int.sub_add_cancel] at this
    exact this
  · have hd := h.det
    have e : ((X - D / R * Y).natAbs : Int) = (X.natAbs : Int) + D / R * (Y.natAbs : Int) := by
      have hp : 0 ≤ D / R * (Y.natAbs : Int) := Int.mul_nonneg q0 (by omega)
      rcases h.opp with ⟨o1, o2⟩ | ⟨o1, o2⟩
      · have : D / R * Y = -(D / R * (Y.natAbs : Int)) := by
          rw [← Int.mul_neg]
          congr 1
          omega
        omega
      · have : D / R * Y = D / R * (Y.natAbs : Int) := by
          congr 1
          omega
        omega
    rw [e, Int.add_mul, Int.mul_sub, Int.mul_assoc (D / R), ← Int.mul_assoc (Y.natAbs : Int), Int.mul_comm (Y.natAbs : Int) (D / R), Int.mul_assoc]
    omega
  · rcases h.opp with ⟨o1, o2⟩ | ⟨o1, o2⟩
    · have : D / R * Y ≤ 0 := Int.mul_nonpos_of_nonneg_of_nonpos q0 o2
      exact .inr ⟨o2, by omega⟩
    · have : 0 ≤ D / R * Y := Int.mul_nonneg q0 o2
      exact .inl ⟨o2, by omega⟩
theorem ok_common_divisor {f : Addr} {fd : FuncData} (F : Fun K "common_divisor" "common_divisor" s_common_divisor f fd) (B : Blt mg) : FnOk P w K mg base CX0 1 f fd ["one", "other"] sp_common_divisor := by
  refine F.ok sc_common_divisor (fun vs H Q E h => ?_) (fun cdv A outer s H vs Q E hr h => ?_)
  · obtain ⟨a, b, rfl, _⟩ := h
    rfl
  · obtain ⟨a, b, rfl, ha, hb, ha4, hb4, q⟩ := h
    have nd := sc_common_divisor.nd
    refine ⟨_, (pss_cons (ps_par (i := 2) (j := 3) (by rfl) nd rfl rfl (by decide) rfl rfl (pa_cons (pv 0) (pa_cons (pv 1) pa_nil)) (by rfl))
    (pss_cons (ps_asg (pe_tup (pa_cons pe_int (pa_cons pe_int pa_nil))) (pg_tup rfl (pgs_cons (pg_name (i := 4) nd rfl (.inl rfl)) (pgs_cons (pg_name (i := 5) nd rfl (.inl rfl)) pgs_nil))))
    (pss_cons (ps_while PassesOwn.never (pt_cmpR op_ne (pv 3) pe_int (nomark _))
      (pss_cons (ps_set (i := 6) nd rfl (.inl rfl) (pe_op op_fdivW (pv 2) (pv 3)))
    (pss_cons (ps_par (i := 2) (j := 3) (by rfl) nd rfl rfl (by decide) rfl rfl (pa_cons (pv 3) (pa_cons (pe_op op_sub (pv 2) (pe_op op_mulW (pv 6) (pv 3))) pa_nil)) (by rfl))
    (pss_one (ps_par (i := 4) (j := 5) (by rfl) nd rfl rfl (by decide) rfl rfl (pa_cons (pv 5) (pa_cons (pe_op op_sub (pv 4) (pe_op op_mulW (pv 6) (pv 5))) pa_nil)) (by rfl))))))
    (pss_one (ps_ret (pe_tup (pa_cons (pv 2) (pa_cons (pv 4) pa_nil)))))))), ?_⟩
    refine ⟨_, rfl, _, rfl, _, _, rfl, sl_of (show 2 ≤ 1000000 by decide), fun t0 nt0 => ?_⟩
    refine ⟨t0, _, rfl, SqT.of upd_same, rfl, _, _, rfl, _, _, rfl, rfl, ?_⟩
    have s0 := same_new nt0 (o := HO.tup [V.int 1, V.int 0])
    refine while_by (fun σ H2 => ∃ (D R X Y : Int) (y : Option V), σ = [some (.int a), some (.int b), some (.int D), some (.int R), some (.int X), some (.int Y), y] ∧ Same H H2 ∧ CdInv a b D R X Y) (fun (σ : L2.St) _ => match σ[3]? with | some (some (V.int R)) => R.toNat | _ => 0) ?_ ?_ ?_
    · refine ⟨a, b, 1, 0, none, rfl, s0, ha, by omega, ha4, hb4, ⟨0, by omega⟩, ⟨-1, by omega⟩, fun c c1 c2 => ⟨c1, c2⟩, ?_, .inl ⟨by decide, by decide⟩, by show 1 ≤ _; omega⟩
      show 1 * b + 0 * a = b
      omega
    · rintro σ H2 ⟨D, R, X, Y, y, rfl, s2, inv⟩
      refine ⟨_, rfl, rfl, _, rfl, ?_⟩
      by_cases hR : R = 0
      · subst hR
        refine iteNS rfl ?_
        obtain ⟨c1, c2⟩ := inv.cd D (Int.dvd_refl D) (Int.dvd_zero D)
        exact ⟨_, rfl, _, rfl, sl_of (show 2 ≤ 1000000 by decide), fun t nt => q t _ D X (s2.trans (same_new nt)) upd_same inv.d0 c1 c2 inv.x1 inv.xb⟩
      · refine iteNN (fun z => hR (by injection z)) ?_
        have hrp : 0 < R := by have := inv.r0; omega
        have qb : (D / R).natAbs < 2 ^ 400 := Nat.lt_of_le_of_lt (ediv_bd hrp) inv.dm
        refine ⟨_, rfl, _, rfl, D, R, rfl, rfl, wide_div hrp inv.rm (by decide) (by decide), ?_⟩
        refine ⟨_, rfl, _, rfl, _, rfl, _, rfl, D / R, R, rfl, rfl, wide_mul qb inv.rm (by decide) (by decide) (by decide), D, _, rfl, rfl, _, _, rfl, ?_⟩
        refine ⟨_, rfl, _, rfl, _, rfl, _, rfl, D / R, Y, rfl, rfl, wide_mul qb (Nat.lt_of_le_of_lt inv.yb hb4) (by decide) (by decide) (by decide), X, _, rfl, rfl, _, _, rfl, ?_⟩
        refine ⟨⟨R, _, Y, _, _, rfl, s2, inv.step hR⟩, ?_⟩
        show (D - D / R * R).toNat < R.toNat
        have h1 := Int.emod_add_mul_ediv D R
        rw [Int.mul_comm R] at h1
        have h2 := Int.emod_lt_of_pos D hrp
        omega
    · intro σ H2 Q Q' hq h
      obtain ⟨x, e1, e2, k, e3, h⟩ := h
      exact ⟨x, e1, e2, k, e3, hq _ _ h⟩
theorem sc_from_sums : FnScope ["prime", "sums", "exponent"] ["prime", "sums"] (defScope s_from_sums) := ⟨rfl, rfl, rfl, by decide +kernel, rfl, by decide +kernel, by decide +kernel⟩
theorem ok_from_sums {f : Addr} {fd : FuncData} (F : Fun K "from_sums" "from_sums" s_from_sums f fd) (B : Blt mg) : FnOk P w K mg base CX0 1 f fd ["prime", "sums"] (sp_from_sumsP K) := by
  refine F.ok sc_from_sums (fun vs H Q E h => ?_) (fun cdv A outer s H vs Q E hr h => ?_)
  · obtain ⟨p, d, m, rfl, _⟩ := h
    rfl
  · obtain ⟨p, d, m, rfl, hp, hd, hn, hl, k⟩ := h
    have hu := hu_of hr
    have nd := sc_from_sums.nd
    refine ⟨_, (pss_one (ps_ret (pe_callTy call_tuple_ofP (by rfl) B.tuple (by decide +kernel) (pa_cons (pe_lc (own := [("exponent", 2)]) (by rfl) nd (pi_list (pe_callB (call_sortedDA rfl) (by rfl) B.sorted (by decide +kernel) (pa_cons (pv 1) pa_nil))) (blkOk_by (N := ["prime", "sums", "exponent"]) (sc := defScope s_from_sums) (own := [("exponent", 2)]) (by decide +kernel)) (fun _ _ _ _ _ => (pg_name (i := 2) nd rfl (.inl rfl))) (fun _ _ _ _ _ => (pts_one (pt_cmpR op_ne (pe_op op_mod (pe_dget hu (pv 1) (pv 2) (fun _ _ => rfl)) (pv 0)) pe_int (nomark _)))) (fun _ _ _ _ _ => (pe_tup (pa_cons (pv 2) (pa_cons (pe_op op_mod (pe_dget hu (pv 1) (pv 2) (fun _ _ => rfl)) (pv 0)) pa_nil))))) pa_nil)))), ?_⟩
    refine ⟨_, rfl, d, kvOf m, m.map (·.1), rfl, .inl hd, kv_keys m, fun ys a perm srt na => ?_⟩
    refine ⟨a, rfl, ⟨_, SqL.of upd_same⟩, fun D nD => ?_⟩
    have sa : Same H (upd H a (.lst (ys.map V.int))) := same_new na
    have hl' : ys.length ≤ 1000000 := by
      rw [perm.length_eq, List.length_map]
      exact hl
    refine lc_list (K := K) (a := a) (xs := ys.map V.int) (fun i H2 => Grow K (upd H a (.lst (ys.map V.int))) D (kept p (cf m) (ys.take i)) H2) (.start nD) ?_ ?_ ?_
    · exact fun i H2 _ h => SqL.of (h.same _ _ upd_same)
    · intro i x H2 hi g
      obtain ⟨e, he, rfl⟩ := ints_get hi
      have h2d := g.same _ _ (sa _ _ hd)
      have hm : e ∈ m.map (·.1) := perm.mem_iff.mp (List.mem_of_getElem? he)
      have hlen : (kept p (cf m) (ys.take i)).length < 1000000 := by
        have h1 := kept_len p (cf m) (ys.take i)
        have h2 : i < ys.length := (List.getElem?_eq_some_iff.mp he).1
        rw [List.length_take] at h1
        omega
      refine ⟨rfl, _, rfl, _, rfl, d, _, rfl, dget_int h2d hn hm, _, rfl, _, _, rfl, rfl, hp, rfl, _, rfl, ?_⟩
      show if (!decide (V.int (cf m e % p) = V.int 0)) = true then _ else _
      rw [take_snoc he, kept_snoc]
      by_cases z : cf m e % p = 0
      · rw [z, if_neg (by simp), if_neg (by simp), List.append_nil]
        exact g
      · have zz : (!decide (V.int (cf m e % p) = V.int 0)) = true := by simp [z]
        rw [zz]
        refine iteT ?_
        refine ⟨_, rfl, _, rfl, _, rfl, d, _, rfl, dget_int h2d hn hm, _, rfl, _, _, rfl, rfl, hp, sl_of (show 2 ≤ 1000000 by decide), fun q nq => ?_⟩
        obtain ⟨acc, h1, h2, h3⟩ := g.step nD nq e (cf m e % p) hlen
        rw [if_pos z]
        exact ⟨acc, h1, h2, h3⟩
    · rintro H2 ⟨s2, xs, h2D, hP⟩
      rw [List.length_map, List.take_length] at hP
      refine ⟨D, xs, rfl, SqL.of h2D, fun t ob nt hob => ?_⟩
      refine k _ _ (kept p (cf m) ys) ((sa.trans s2).trans (same_new nt)) ⟨t, xs, rfl, ⟨ob, hob, upd_same⟩, Prs.tp (tp_new nt) hP⟩ (kept_nf hp srt (perm.nodup_iff.mpr hn) fun e he => ?_)
      rw [cf_out (fun z => he (perm.mem_iff.mpr z))]
      rfl
theorem sc_normalize : FnScope ["prime", "pairs", "sums", "exponent", "coefficient"] ["prime", "pairs"] (defScope s_normalize) := ⟨rfl, rfl, rfl, by decide +kernel, rfl, by decide +kernel, by decide +kernel⟩
theorem ok_normalize {f : Addr} {fd : FuncData} (F : Fun K "normalize" "normalize" s_normalize f fd) (B : Blt mg) (C_from_sums : Cal P w K mg base 1 "from_sums" (sp_from_sumsP K)) : FnOk P w K mg base CX0 2 f fd ["prime", "pairs"] (sp_normalizeP K) := by
  refine F.ok sc_normalize (fun vs H Q E h => ?_) (fun cdv A outer s H vs Q E hr h => ?_)
  · obtain ⟨p, v, ps, rfl, _⟩ := h
    rfl
  · obtain ⟨p, v, ps, rfl, hp, hv, hl, k⟩ := h
    have hu := hu_of hr
    have nd := sc_normalize.nd
    rcases hv with ⟨a, xs, rfl, hs, hP⟩ | ⟨a, xs, rfl, hs, hP⟩
    · refine ⟨_, (pss_cons (ps_set (i := 2) nd rfl (.inl rfl) pe_dnewK)
        (pss_cons (ps_for PassesOwn.never rfl (pi_tup (pv 1)) (pg_tup rfl (pgs_cons (pg_name (i := 3) nd rfl (.inl rfl)) (pgs_cons (pg_name (i := 4) nd rfl (.inl rfl)) pgs_nil)))
          (pss_one (ps_dput hu (pv 2) (pv 3) (pe_op op_add (pe_dget2 hu (pv 2) (pv 3) pe_int ⟨rfl, rfl, rfl, rfl⟩) (pv 4)) rfl)))
        (pss_one (ps_ret (pe_c C_from_sums hr (by decide) (by rfl) (pa_cons (pv 0) (pa_cons (pv 2) pa_nil))))))), ?_⟩
      intro d nd0
      have s1 : Same H (upd H d (.dK [])) := same_new nd0
      refine ⟨_, rfl, a, rfl, ⟨_, same_t s1 hs⟩, for_tup (K := K) (a := a) (xs := xs) (fun i σ H2 => ∃ (m : Pol) (y z : Option V), σ = [some (.int p), some (.ref a), some (.ref d), y, z] ∧ Same H H2 ∧ H2 d = some (.dK (kvOf m)) ∧ (m.map (·.1)).Nodup ∧ m.length ≤ i ∧ ∀ e, cf m e = cf (ps.take i) e) ?_ ?_ ?_ ?_⟩
      · exact ⟨[], none, none, rfl, s1, upd_same, List.nodup_nil, Nat.le_refl _, fun _ => rfl⟩
      · rintro i σ H2 _ ⟨m, y, z, _, s2, _⟩
        exact same_t s2 hs
      · rintro i x σ H2 hi ⟨m, y, z, rfl, s2, hd, hn, hm, hc⟩
        obtain ⟨t, ht, b, rfl, hb⟩ := hP.get hi
        have hlt : i < ps.length := (List.getElem?_eq_some_iff.mp ht).1
        refine ⟨b, _, rfl, same_t s2 hb, rfl, _, _, rfl, _, _, rfl, rfl, ?_⟩
        refine ⟨_, rfl, d, rfl, .inl ⟨_, .inl hd⟩, _, rfl, _, dget_any t.1 hd, _, rfl, cf m t.1, t.2, kv_getD m t.1 hn, rfl, _, rfl, _, rfl, d, _, rfl, dput_int t.1 (cf m t.1 + t.2) hd hn (by omega), ?_⟩
        refine ⟨put m t.1 (cf m t.1 + t.2), _, _, rfl, same_mut s2 nd0, upd_same, put_nodup _ _ _ hn, ?_, fun e => ?_⟩
        · have := put_len m t.1 (cf m t.1 + t.2)
          omega
        · rw [put_cf _ _ _ _ hn, take_snoc ht, cf_append, cf_cons, cf_nil, ← hc]
          by_cases q : e = t.1
          · rw [if_pos q, if_pos q.symm, q]
            omega
          · rw [if_neg q, if_neg (fun z => q z.symm)]
            omega
      · rintro σ H2 ⟨m, y, z, rfl, s2, hd, hn, hm, hc⟩
        have hlen := hP.len
        rw [hlen, List.take_length] at hc
        refine ⟨_, rfl, _, rfl, p, d, m, rfl, hp, hd, hn, by omega, fun u H3 g s3 hg hN => k u H3 g (s2.trans s3) hg (hN.to fun e => by rw [hc])⟩
    · refine ⟨_, (pss_cons (ps_set (i := 2) nd rfl (.inl rfl) pe_dnewK)
        (pss_cons (ps_for PassesOwn.never rfl (pi_list (pv 1)) (pg_tup rfl (pgs_cons (pg_name (i := 3) nd rfl (.inl rfl)) (pgs_cons (pg_name (i := 4) nd rfl (.inl rfl)) pgs_nil)))
          (pss_one (ps_dput hu (pv 2) (pv 3) (pe_op op_add (pe_dget2 hu (pv 2) (pv 3) pe_int ⟨rfl, rfl, rfl, rfl⟩) (pv 4)) rfl)))
        (pss_one (ps_ret (pe_c C_from_sums hr (by decide) (by rfl) (pa_cons (pv 0) (pa_cons (pv 2) pa_nil))))))), ?_⟩
      intro d nd0
      have s1 : Same H (upd H d (.dK [])) := same_new nd0
      refine ⟨_, rfl, a, rfl, ⟨_, same_l s1 hs⟩, for_list (K := K) (a := a) (xs := xs) (fun i σ H2 => ∃ (m : Pol) (y z : Option V), σ = [some (.int p), some (.ref a), some (.ref d), y, z] ∧ Same H H2 ∧ H2 d = some (.dK (kvOf m)) ∧ (m.map (·.1)).Nodup ∧ m.length ≤ i ∧ ∀ e, cf m e = cf (ps.take i) e) ?_ ?_ ?_ ?_⟩
      · exact ⟨[], none, none, rfl, s1, upd_same, List.nodup_nil, Nat.le_refl _, fun _ => rfl⟩
      · rintro i σ H2 _ ⟨m, y, z, _, s2, _⟩
        exact same_l s2 hs
      · rintro i x σ H2 hi ⟨m, y, z, rfl, s2, hd, hn, hm, hc⟩
        obtain ⟨t, ht, b, rfl, hb⟩ := hP.get hi
        have hlt : i < ps.length := (List.getElem?_eq_some_iff.mp ht).1
        refine ⟨b, _, rfl, same_t s2 hb, rfl, _, _, rfl, _, _, rfl, rfl, ?_⟩
        refine ⟨_, rfl, d, rfl, .inl ⟨_, .inl hd⟩, _, rfl, _, dget_any t.1 hd, _, rfl, cf m t.1, t.2, kv_getD m t.1 hn, rfl, _, rfl, _, rfl, d, _, rfl, dput_int t.1 (cf m t.1 + t.2) hd hn (by omega), ?_⟩
        refine ⟨put m t.1 (cf m t.1 + t.2), _, _, rfl, same_mut s2 nd0, upd_same, put_nodup _ _ _ hn, ?_, fun e => ?_⟩
        · have := put_len m t.1 (cf m t.1 + t.2)
          omega
        · rw [put_cf _ _ _ _ hn, take_snoc ht, cf_append, cf_cons, cf_nil, ← hc]
          by_cases q : e = t.1
          · rw [if_pos q, if_pos q.symm, q]
            omega
          · rw [if_neg q, if_neg (fun z => q z.symm)]
            omega
      · rintro σ H2 ⟨m, y, z, rfl, s2, hd, hn, hm, hc⟩
        have hlen := hP.len
        rw [hlen, List.take_length] at hc
        refine ⟨_, rfl, _, rfl, p, d, m, rfl, hp, hd, hn, by omega, fun u H3 g s3 hg hN => k u H3 g (s2.trans s3) hg (hN.to fun e => by rw [hc])⟩
theorem sc_add : FnScope ["prime", "one", "other"] ["prime", "one", "other"] (defScope s_add) := ⟨rfl, rfl, rfl, by decide +kernel, rfl, by decide +kernel, by decide +kernel⟩
theorem ok_add {f : Addr} {fd : FuncData} (F : Fun K "add" "add" s_add f fd) (B : Blt mg) (C_normalize : Cal P w K mg base 2 "normalize" (sp_normalize K)) : FnOk P w K mg base CX0 3 f fd ["prime", "one", "other"] (sp_add K) := by
  refine F.ok sc_add (fun vs H Q E h => ?_) (fun cdv A outer s H vs Q E hr h => ?_)
  · obtain ⟨p, v1, v2, f, g, rfl, _⟩ := h
    rfl
  · obtain ⟨p, v1, v2, f, g, rfl, hp, ⟨a, xs, rfl, hs, hP⟩, ⟨b, ys, rfl, ht, hR⟩, hl, k⟩ := h
    have nd := sc_add.nd
    refine ⟨_, (pss_one (ps_ret (pe_c C_normalize hr (by decide) (by rfl) (pa_cons (pv 0) (pa_cons (pe_op op_catA (pv 1) (pv 2)) pa_nil))))), ?_⟩
    refine ⟨_, rfl, _, rfl, _, rfl, a, b, xs, ys, rfl, rfl, hs, ht, sl_of (by rw [hP.len, hR.len]; exact hl), fun e => ?_, fun _ e => ?_, fun _ _ q nq => ?_⟩
    · subst e
      cases hP
      exact ⟨p, _, g, rfl, hp, .inl ⟨b, ys, rfl, ht, hR⟩, by omega, fun u H' r s1 h1 N => k u H' r s1 h1 (N.to fun e => by rw [cf_nil, Int.zero_add])⟩
    · subst e
      cases hR
      exact ⟨p, _, f, rfl, hp, .inl ⟨a, xs, rfl, hs, hP⟩, by omega, fun u H' r s1 h1 N => k u H' r s1 h1 (N.to fun e => by rw [cf_nil, Int.add_zero])⟩
    · refine ⟨p, _, f ++ g, rfl, hp, .inl ⟨q, _, rfl, SqT.of upd_same, Prs.tp (tp_new nq) (hP.app hR)⟩, by rw [List.length_append]; exact hl, fun u H' r s1 h1 N => k u H' r ((same_new nq).trans s1) h1 (N.to fun e => by rw [cf_append])⟩
theorem sc_move : FnScope ["polynomial", "places", "exponent", "coefficient"] ["polynomial", "places"] (defScope s_move) := ⟨rfl, rfl, rfl, by decide +kernel, rfl, by decide +kernel, by decide +kernel⟩
theorem ok_move {f : Addr} {fd : FuncData} (F : Fun K "move" "move" s_move f fd) (B : Blt mg) : FnOk P w K mg base CX0 1 f fd ["polynomial", "places"] (sp_move K) := by
  refine F.ok sc_move (fun vs H Q E h => ?_) (fun cdv A outer s H vs Q E hr h => ?_)
  · obtain ⟨v, f, n, rfl, _⟩ := h
    rfl
  · obtain ⟨v, f, n, rfl, ⟨a, xs, rfl, hs, hP⟩, hl, k⟩ := h
    have nd := sc_move.nd
    refine ⟨_, (pss_one (ps_ret (pe_callTy call_tuple_of (by rfl) B.tuple (by decide +kernel) (pa_cons (pe_lc (own := [("exponent", 2), ("coefficient", 3)]) (g := gTup K 2 (gCons (gName 2) (gCons (gName 3) gNil))) (by rfl) nd (pi_tup (pv 0)) (blkOk_by (N := ["polynomial", "places", "exponent", "coefficient"]) (sc := defScope s_move) (own := [("exponent", 2), ("coefficient", 3)]) (by decide +kernel)) (fun _ _ _ _ _ => (pg_tup rfl (pgs_cons (pg_name (i := 2) nd rfl (.inl rfl) (.inr rfl)) (pgs_cons (pg_name (i := 3) nd rfl (.inl rfl) (.inr rfl)) pgs_nil)))) (fun _ _ _ _ _ => pts_nil) (fun _ _ _ _ _ => (pe_tup (pa_cons (pe_op op_add (pv 2) (pv 1)) (pa_cons (pv 3) pa_nil))))) pa_nil)))), ?_⟩
    dsimp only [tRet, tCB, tCons, tNil]
    exact lcT (fun t => (t.1 + n, t.2)) rfl hs hP hl (fun _ _ => rfl) (fun t ht H2 s2 R q => ⟨_, rfl, _, rfl, _, _, rfl, rfl, _, rfl, sl_of (show 2 ≤ 1000000 by decide), q⟩) fun D H2 nD g => rd_tuple g k
theorem sc_is_count : FnScope ["value"] ["value"] (defScope s_is_count) := ⟨rfl, rfl, rfl, by decide +kernel, rfl, by decide +kernel, by decide +kernel⟩
theorem ok_is_count {f : Addr} {fd : FuncData} (F : Fun K "is_count" "is_count" s_is_count f fd) (B : Blt mg) {tk : Tok} (G_GREATEST_COUNT : mg "GREATEST_COUNT" = some (.int 1000000000000000000000000000000 tk)) (C_is_whole : Cal P w K mg base 1 "is_whole" (sp_is_whole K)) : FnOk P w K mg base CX0 2 f fd ["value"] (sp_is_count K) := by
  refine F.ok sc_is_count (fun vs H Q E h => ?_) (fun cdv A outer s H vs Q E hr h => ?_)
  · obtain ⟨z, rfl, _⟩ := h
    rfl
  · obtain ⟨z, rfl, hz, k⟩ := h
    have nd := sc_is_count.nd
    refine ⟨_, (pss_one (ps_ret (pe_and (pe_c C_is_whole hr (by decide) (by rfl) (pa_cons (pv 0) pa_nil)) (pe_one (pe_cmpR op_le (pe_callB call_abs (by rfl) B.abs (by decide +kernel) (pa_cons (pv 0) pa_nil)) (pe_glob (v := .int 1000000000000000000000000000000) rfl G_GREATEST_COUNT ⟨_, rfl⟩) (nomark _)))))), ?_⟩
    refine ⟨_, rfl, .int z, .int z, rfl, .inl (.int z), _, rfl, ?_⟩
    refine (if_pos (show isWhole (.int z) = true from rfl)).mpr ?_
    refine ⟨_, rfl, z, rfl, _, _, rfl, rfl, ?_⟩
    show Q (V.bl (decide ((if z < 0 then -z else z) ≤ 1000000000000000000000000000000))) H
    rw [decide_eq_true (show (if z < 0 then -z else z) ≤ 1000000000000000000000000000000 by split <;> omega)]
    exact k
theorem sc_is_step_or_turn : FnScope ["value"] ["value"] (defScope s_is_step_or_turn) := ⟨rfl, rfl, rfl, by decide +kernel, rfl, by decide +kernel, by decide +kernel⟩
theorem ok_is_step_or_turn {f : Addr} {fd : FuncData} (F : Fun K "is_step_or_turn" "is_step_or_turn" s_is_step_or_turn f fd) (B : Blt mg) (C_is_count : Cal P w K mg base 2 "is_count" (sp_is_count K)) : FnOk P w K mg base CX0 3 f fd ["value"] (sp_is_step_or_turn K) := by
  refine F.ok sc_is_step_or_turn (fun vs H Q E h => ?_) (fun cdv A outer s H vs Q E hr h => ?_)
  · obtain ⟨v, i, rfl, _⟩ := h
    rfl
  · obtain ⟨v, i, rfl, hv, hc, k⟩ := h
    have nd := sc_is_step_or_turn.nd
    refine ⟨_, (pss_cons (ps_if (PW.pt (pw_or (pt_not (pt_val (pe_callB call_isi (by rfl) B.isinstance (by decide +kernel) (pa_cons (pv 0) (pa_cons (pe_bltn (v := .ty "tuple") (u := .type "tuple") (by rfl) B.tuple (by decide +kernel) rfl) pa_nil))))) (pw_or1 (pt_cmpR op_ne (pe_callB call_len_seq (by rfl) B.len (by decide +kernel) (pa_cons (pv 0) pa_nil)) pe_int (nomark _)))))
      (pss_one (ps_ret pe_bl))
      pss_nil)
    (pss_one (ps_ret (pe_and (pe_cmpR op_in_seq (pe_ix ix_tup (pv 0) pe_int (fun _ _ => rfl)) (pe_tup (pa_cons pe_str (pa_cons pe_str pa_nil))) rfl) (pe_one (pe_c C_is_count hr (by decide) (by rfl) (pa_cons (pe_ix ix_tup (pv 0) pe_int (fun _ _ => rfl)) pa_nil))))))), ?_⟩
    obtain ⟨d, hd, hi⟩ := id hv
    rcases hv.inv with ⟨a, c, rfl, hs, rfl⟩ | ⟨a, c, rfl, hs, rfl⟩ | ⟨a, n, y, bb, rfl, hs, hp, rfl⟩
    · rw [CI] at hc
      have ht : isTup d = true := by cases hi; rfl
      refine ⟨_, rfl, .ref a, .ty "tuple", _, _, _, rfl, .ty "tuple", Dp.ty hd, kit_tuple d, _, rfl, ?_⟩
      rw [ht]
      refine iteF ?_
      refine ⟨_, rfl, a, _, rfl, .inr hs, rfl, _, rfl, ?_⟩
      refine iteNF rfl ?_
      refine ⟨_, rfl, a, _, 0, _, rfl, rfl, hs, rfl, sl_of (show 2 ≤ 1000000 by decide), fun T nT => ?_⟩
      have z := same_new nT (o := HO.tup [V.str "step", V.str "turn"])
      refine ⟨T, _, rfl, .inr (SqT.of upd_same), rfl, rfl, _, rfl, ?_⟩
      refine (if_pos (show (if false = true then !inV (V.str "step") [V.str "step", V.str "turn"] else inV (V.str "step") [V.str "step", V.str "turn"]) = true by decide +kernel)).mpr ?_
      refine ⟨_, rfl, a, _, 1, _, rfl, rfl, same_t z hs, rfl, c, rfl, hc, ?_⟩
      exact k _ z
    · rw [CI] at hc
      have ht : isTup d = true := by cases hi; rfl
      refine ⟨_, rfl, .ref a, .ty "tuple", _, _, _, rfl, .ty "tuple", Dp.ty hd, kit_tuple d, _, rfl, ?_⟩
      rw [ht]
      refine iteF ?_
      refine ⟨_, rfl, a, _, rfl, .inr hs, rfl, _, rfl, ?_⟩
      refine iteNF rfl ?_
      refine ⟨_, rfl, a, _, 0, _, rfl, rfl, hs, rfl, sl_of (show 2 ≤ 1000000 by decide), fun T nT => ?_⟩
      have z := same_new nT (o := HO.tup [V.str "step", V.str "turn"])
      refine ⟨T, _, rfl, .inr (SqT.of upd_same), rfl, rfl, _, rfl, ?_⟩
      refine (if_pos (show (if false = true then !inV (V.str "turn") [V.str "step", V.str "turn"] else inV (V.str "turn") [V.str "step", V.str "turn"]) = true by decide +kernel)).mpr ?_
      refine ⟨_, rfl, a, _, 1, _, rfl, rfl, same_t z hs, rfl, c, rfl, hc, ?_⟩
      exact k _ z
    · have ht : isTup d = true := by cases hi; rfl
      refine ⟨_, rfl, .ref a, .ty "tuple", _, _, _, rfl, .ty "tuple", Dp.ty hd, kit_tuple d, _, rfl, ?_⟩
      rw [ht]
      refine iteF ?_
      refine ⟨_, rfl, a, _, rfl, .inr hs, rfl, _, rfl, ?_⟩
      refine iteNN (fun z => absurd (V.int.inj z) (show ¬ ((3 : Nat) : Int) = 2 by decide)) ?_
      exact k H (Same.refl H)
theorem sc_begins_as_repeat : FnScope ["value"] ["value"] (defScope s_begins_as_repeat) := ⟨rfl, rfl, rfl, by decide +kernel, rfl, by decide +kernel, by decide +kernel⟩
theorem ok_begins_as_repeat {f : Addr} {fd : FuncData} (F : Fun K "begins_as_repeat" "begins_as_repeat" s_begins_as_repeat f fd) (B : Blt mg) (C_is_count : Cal P w K mg base 2 "is_count" (sp_is_count K)) : FnOk P w K mg base CX0 3 f fd ["value"] (sp_begins_as_repeat K) := by
  refine F.ok sc_begins_as_repeat (fun vs H Q E h => ?_) (fun cdv A outer s H vs Q E hr h => ?_)
  · obtain ⟨v, n, bb, rfl, _⟩ := h
    rfl
  · obtain ⟨v, n, bb, rfl, hv, h0, h9, k⟩ := h
    have nd := sc_begins_as_repeat.nd
    refine ⟨_, (pss_cons (ps_if (PW.pt (pw_or (pt_not (pt_val (pe_callB call_isi (by rfl) B.isinstance (by decide +kernel) (pa_cons (pv 0) (pa_cons (pe_bltn (v := .ty "tuple") (u := .type "tuple") (by rfl) B.tuple (by decide +kernel) rfl) pa_nil))))) (pw_or1 (pt_cmpR op_ne (pe_callB call_len_seq (by rfl) B.len (by decide +kernel) (pa_cons (pv 0) pa_nil)) pe_int (nomark _)))))
      (pss_one (ps_ret pe_bl))
      pss_nil)
    (pss_one (ps_ret (pe_and (pe_cmpR op_eq (pe_ix ix_tup (pv 0) pe_int (fun _ _ => rfl)) pe_str (nomark _)) (pe_and (pe_c C_is_count hr (by decide) (by rfl) (pa_cons (pe_ix ix_tup (pv 0) pe_int (fun _ _ => rfl)) pa_nil)) (pe_one (pe_cmpR op_ge (pe_ix ix_tup (pv 0) pe_int (fun _ _ => rfl)) pe_int (nomark _)))))))), ?_⟩
    obtain ⟨d, hd, hi⟩ := id hv
    rcases hv.inv with ⟨a, c, rfl, hs, e⟩ | ⟨a, c, rfl, hs, e⟩ | ⟨a, n', y, bb', rfl, hs, hp, e⟩
    · cases e
    · cases e
    · cases e
      have ht : isTup d = true := by cases hi; rfl
      refine ⟨_, rfl, .ref a, .ty "tuple", _, _, _, rfl, .ty "tuple", Dp.ty hd, kit_tuple d, _, rfl, ?_⟩
      rw [ht]
      refine iteF ?_
      refine ⟨_, rfl, a, _, rfl, .inr hs, rfl, _, rfl, ?_⟩
      refine iteNF rfl ?_
      refine ⟨_, rfl, a, _, 0, _, rfl, rfl, hs, rfl, rfl, _, rfl, iteS rfl ?_⟩
      refine ⟨_, rfl, a, _, 1, _, rfl, rfl, hs, rfl, n, rfl, by omega, _, rfl, iteT ?_⟩
      refine ⟨_, rfl, a, _, 1, _, rfl, rfl, hs, rfl, _, _, rfl, rfl, ?_⟩
      show Q (V.bl (decide (n ≥ 0))) H
      rw [decide_eq_true (show n ≥ 0 by omega)]
      exact k
theorem sc_sizes_of : FnScope ["value", "depth", "instructions", "repeats", "instruction", "inner"] ["value", "depth"] (defScope s_sizes_of) := ⟨rfl, rfl, rfl, by decide +kernel, rfl, by decide +kernel, by decide +kernel⟩
theorem ok_sizes_of (k : Nat) (C_sizes_of : Cal P w K mg base (k + 3) "sizes_of" (sp_sizes_of K k)) {f : Addr} {fd : FuncData} (F : Fun K "sizes_of" "sizes_of" s_sizes_of f fd) (B : Blt mg) {tk1 tk2 : Tok} (G_MOST_INSTRUCTIONS : mg "MOST_INSTRUCTIONS" = some (.int 100 tk1)) (G_MOST_REPEATS : mg "MOST_REPEATS" = some (.int 5 tk2)) (C_is_step_or_turn : Cal P w K mg base 3 "is_step_or_turn" (sp_is_step_or_turn K)) (C_begins_as_repeat : Cal P w K mg base 3 "begins_as_repeat" (sp_begins_as_repeat K)) : FnOk P w K mg base CX0 (k + 3 + 1) f fd ["value", "depth"] (sp_sizes_of K (k + 1)) := by
  refine F.ok sc_sizes_of (fun vs H Q E h => ?_) (fun cdv A outer s H vs Q E hr h => ?_)
  · obtain ⟨v, d, b, rfl, _⟩ := h
    rfl
  · obtain ⟨v, d, b, rfl, hv, hk, hk3, hd0, hd2, hcp, hnp, hrp, hcn, hsd, q⟩ := h
    have nd := sc_sizes_of.nd
    obtain ⟨a, xs, rfl, hsq, hI⟩ := hv.inv
    have lb := len_cnP b
    have lx := hI.len
    obtain ⟨ds, dall, isall⟩ := hI.all
    rcases hsq with hs | hs
    · refine ⟨_, (pss_cons (ps_if (pt_not (pt_val (pe_callB call_isiT (by rfl) B.isinstance (by decide +kernel) (pa_cons (pv 0) (pa_cons (pe_tup (pa_cons (pe_bltn (v := .ty "list") (u := .type "list") (by rfl) B.list (by decide +kernel) rfl) (pa_cons (pe_bltn (v := .ty "tuple") (u := .type "tuple") (by rfl) B.tuple (by decide +kernel) rfl) pa_nil))) pa_nil)))))
      (pss_one (ps_ret pe_non))
      pss_nil)
    (pss_cons (ps_set (i := 2) nd rfl (.inl rfl) (pe_callB call_len_seq (by rfl) B.len (by decide +kernel) (pa_cons (pv 0) pa_nil)))
    (pss_cons (ps_set (i := 3) nd rfl (.inl rfl) pe_int)
    (pss_cons (ps_for PassesOwn.never rfl (pi_list (pv 0)) (pg_name (i := 4) nd rfl (.inl rfl))
      (pss_cons (ps_if (PW.pt (pw_or (pt_cmpR op_gt (pv 2) (pe_glob (v := .int 100) rfl G_MOST_INSTRUCTIONS ⟨_, rfl⟩) (nomark _)) (pw_or1 (pt_cmpR op_gt (pv 3) (pe_glob (v := .int 5) rfl G_MOST_REPEATS ⟨_, rfl⟩) (nomark _)))))
      (pss_one (ps_ret pe_non))
      pss_nil)
    (pss_cons (ps_if (pt_val (pe_c C_is_step_or_turn hr (by omega) (by rfl) (pa_cons (pv 4) pa_nil)))
      (pss_one ps_continue)
      pss_nil)
    (pss_cons (ps_if (PW.pt (pw_or (pt_cmpR op_eq (pv 1) pe_int (nomark _)) (pw_or1 (pt_not (pt_val (pe_c C_begins_as_repeat hr (by omega) (by rfl) (pa_cons (pv 4) pa_nil)))))))
      (pss_one (ps_ret pe_non))
      pss_nil)
    (pss_cons (ps_set (i := 5) nd rfl (.inl rfl) (pe_c C_sizes_of hr (by omega) (by rfl) (pa_cons (pe_ix ix_tup (pv 4) pe_int (fun _ _ => rfl)) (pa_cons (pe_op op_sub (pv 1) pe_int) pa_nil))))
    (pss_cons (ps_if (pt_cmpR op_isN (pv 5) pe_non (nomark _))
      (pss_one (ps_ret pe_non))
      pss_nil)
    (pss_cons (ps_aug (i := 2) nd rfl (.inl rfl) (pe_ix ix_tup (pv 5) pe_int (fun _ _ => rfl)) ip_add)
    (pss_one (ps_aug (i := 3) nd rfl (.inl rfl) (pe_op op_add pe_int (pe_ix ix_tup (pv 5) pe_int (fun _ _ => rfl))) ip_add)))))))))
    (pss_cons (ps_if (PW.pt (pw_or (pt_cmpR op_gt (pv 2) (pe_glob (v := .int 100) rfl G_MOST_INSTRUCTIONS ⟨_, rfl⟩) (nomark _)) (pw_or1 (pt_cmpR op_gt (pv 3) (pe_glob (v := .int 5) rfl G_MOST_REPEATS ⟨_, rfl⟩) (nomark _)))))
      (pss_one (ps_ret pe_non))
      pss_nil)
    (pss_one (ps_ret (pe_tup (pa_cons (pv 2) (pa_cons (pv 3) pa_nil)))))))))), ?_⟩
      have dX : Dp K H (.ref a) (.list ds) := .lst hs dall
      refine ⟨_, rfl, sl_of (show 2 ≤ 1000000 by decide), fun T0 nT0 => ?_⟩
      have s1 := same_new nT0 (o := HO.tup [V.ty "list", V.ty "tuple"])
      refine ⟨.ref a, T0, _, _, _, true, rfl, upd_same, .cons (.ty "list") (.cons (.ty "tuple") .nil), Dp.ty (Dp.same s1 dX), ?_, _, rfl, iteF ?_⟩
      · exact kitAny_cons (b := true) (r := true) (kit_ty (show kitB "list" "list" = some true by decide +kernel)) (fun z => by cases z) (fun _ => rfl)
      have hs := same_l s1 hs
      have hI := hI.same s1
      generalize upd H T0 (HO.tup [V.ty "list", V.ty "tuple"]) = H1 at s1 hs hI ⊢
      refine ⟨_, rfl, a, _, rfl, .inl hs, ?_⟩
      refine ⟨_, rfl, a, rfl, ⟨_, hs⟩, for_list (K := K) (a := a) (xs := xs) (fun j σ H2 => ∃ (y4 y5 : Option V), σ = [some (.ref a), some (.int d), some (.int ((cnP (b.take j) + (b.length - j) : Nat) : Int)), some (.int ((sdP (b.take j)).length : Int)), y4, y5] ∧ Same H1 H2) ⟨none, none, ?_, Same.refl _⟩ ?_ ?_ ?_⟩
      · rw [List.take_zero, show cnP [] = 0 by rw [cnP], sdP_nil, lx]
        simp
        rfl
      · rintro j σ H2 _ ⟨_, _, _, s2⟩
        exact same_l s2 hs
      · rintro j x σ H2 hj ⟨y4, y5, rfl, s2⟩
        obtain ⟨i, hi, hx0⟩ := hI.get hj
        have hm := List.mem_of_getElem? hi
        have hjl : j < b.length := (List.getElem?_eq_some_iff.mp hi).1
        have ts := take_snoc hi
        have splitb := List.take_append_drop (j + 1) b
        have cnb : cnP (b.take (j + 1)) + cnP (b.drop (j + 1)) = cnP b := by rw [← cnP_app, splitb]
        have sdb : (sdP (b.take (j + 1))).length + (sdP (b.drop (j + 1))).length = (sdP b).length := by rw [← List.length_append, ← sdP_app, splitb]
        have lend := len_cnP (b.drop (j + 1))
        rw [List.length_drop] at lend
        have cni : cnP (b.take (j + 1)) = cnP (b.take j) + cnI i := by
          rw [ts, cnP_app, cnP_cons, show cnP [] = 0 by rw [cnP]]
          omega
        have sdi : (sdP (b.take (j + 1))).length = (sdP (b.take j)).length + (sdI i).length := by
          rw [ts, sdP_app, sdP_one, List.length_append]
        have cpos := cnI_pos i
        refine ⟨_, rfl, _, 100, rfl, rfl, _, rfl, iteN (by omega) ?_⟩
        refine ⟨_, rfl, _, 5, rfl, rfl, _, rfl, iteN (by omega) ?_⟩
        have hx := hx0.same s2
        have ci := CP_mem hcp hm
        refine ⟨_, rfl, x, i, rfl, hx, ci, fun H3 s3 => ⟨_, rfl, ?_⟩⟩
        have s23 := s2.trans s3
        rcases (hx0.same s23).inv with ⟨e, c, rfl, ht0, rfl⟩ | ⟨e, c, rfl, ht0, rfl⟩ | ⟨e, c, y, bb, rfl, ht0, hy0, rfl⟩
        · refine iteT ?_
          rw [cnI] at cni
          rw [sdI] at sdi
          exact ⟨some (.ref e), y5, by rw [cni, sdi, show cnP (b.take j) + 1 + (b.length - (j + 1)) = cnP (b.take j) + (b.length - j) by omega]; rfl, s23⟩
        · refine iteT ?_
          rw [cnI] at cni
          rw [sdI] at sdi
          exact ⟨some (.ref e), y5, by rw [cni, sdi, show cnP (b.take j) + 1 + (b.length - (j + 1)) = cnP (b.take j) + (b.length - j) by omega]; rfl, s23⟩
        · refine iteF ?_
          have di := dpP_mem hm
          rw [dpI] at di
          have ni := NP_mem hnp hm
          rw [NI] at ni
          have ri := RP_mem hrp hm
          rw [RI] at ri
          rw [CI] at ci
          rw [cnI] at cni
          rw [sdI, List.length_cons] at sdi
          refine ⟨_, rfl, rfl, _, rfl, iteN (fun z => absurd (V.int.inj z) (by omega)) ?_⟩
          refine ⟨_, rfl, .ref e, c, bb, rfl, hx0.same s23, ni.1, ri.1, _, rfl, iteF ?_⟩
          refine ⟨_, rfl, e, _, 2, _, rfl, rfl, ht0, rfl, _, rfl, _, _, rfl, rfl, y, d - 1, bb, rfl, hy0, by omega, by omega, by omega, by omega, ci, ni.2, ri.2, by omega, by omega, fun T H4 s4 hT => ?_⟩
          refine ⟨_, rfl, rfl, _, rfl, iteN (fun z => by cases z) ?_⟩
          refine ⟨_, rfl, _, rfl, T, _, 0, _, rfl, rfl, hT, rfl, _, _, rfl, rfl, ?_⟩
          refine ⟨_, rfl, _, rfl, T, _, 1, _, rfl, rfl, hT, rfl, _, _, rfl, rfl, _, _, rfl, rfl, ?_⟩
          refine ⟨some (.ref e), some (.ref T), ?_, s23.trans s4⟩
          rw [cni, sdi]
          have e1 : ((cnP (b.take j) + (cnP bb + 1) + (b.length - (j + 1)) : Nat) : Int) = ((cnP (b.take j) + (b.length - j) : Nat) : Int) + (cnP bb : Int) := by omega
          have e2 : (((sdP (b.take j)).length + ((sdP bb).length + 1) : Nat) : Int) = ((sdP (b.take j)).length : Int) + (1 + ((sdP bb).length : Int)) := by omega
          rw [e1, e2]
          rfl
      · rintro σ H2 ⟨y4, y5, rfl, s2⟩
        rw [hI.len, List.take_length, Nat.sub_self, Nat.add_zero]
        refine ⟨_, rfl, _, 100, rfl, rfl, _, rfl, iteN (by omega) ?_⟩
        refine ⟨_, rfl, _, 5, rfl, rfl, _, rfl, iteN (by omega) ?_⟩
        refine ⟨_, rfl, _, rfl, sl_of (show 2 ≤ 1000000 by decide), fun T nT => ?_⟩
        exact q T _ (s1.trans (s2.trans (same_new nT))) (SqT.of upd_same)
    · refine ⟨_, (pss_cons (ps_if (pt_not (pt_val (pe_callB call_isiT (by rfl) B.isinstance (by decide +kernel) (pa_cons (pv 0) (pa_cons (pe_tup (pa_cons (pe_bltn (v := .ty "list") (u := .type "list") (by rfl) B.list (by decide +kernel) rfl) (pa_cons (pe_bltn (v := .ty "tuple") (u := .type "tuple") (by rfl) B.tuple (by decide +kernel) rfl) pa_nil))) pa_nil)))))
      (pss_one (ps_ret pe_non))
      pss_nil)
    (pss_cons (ps_set (i := 2) nd rfl (.inl rfl) (pe_callB call_len_seq (by rfl) B.len (by decide +kernel) (pa_cons (pv 0) pa_nil)))
    (pss_cons (ps_set (i := 3) nd rfl (.inl rfl) pe_int)
    (pss_cons (ps_for PassesOwn.never rfl (pi_tup (pv 0)) (pg_name (i := 4) nd rfl (.inl rfl))
      (pss_cons (ps_if (PW.pt (pw_or (pt_cmpR op_gt (pv 2) (pe_glob (v := .int 100) rfl G_MOST_INSTRUCTIONS ⟨_, rfl⟩) (nomark _)) (pw_or1 (pt_cmpR op_gt (pv 3) (pe_glob (v := .int 5) rfl G_MOST_REPEATS ⟨_, rfl⟩) (nomark _)))))
      (pss_one (ps_ret pe_non))
      pss_nil)
    (pss_cons (ps_if (pt_val (pe_c C_is_step_or_turn hr (by omega) (by rfl) (pa_cons (pv 4) pa_nil)))
      (pss_one ps_continue)
      pss_nil)
    (pss_cons (ps_if (PW.pt (pw_or (pt_cmpR op_eq (pv 1) pe_int (nomark _)) (pw_or1 (pt_not (pt_val (pe_c C_begins_as_repeat hr (by omega) (by rfl) (pa_cons (pv 4) pa_nil)))))))
      (pss_one (ps_ret pe_non))
      pss_nil)
    (pss_cons (ps_set (i := 5) nd rfl (.inl rfl) (pe_c C_sizes_of hr (by omega) (by rfl) (pa_cons (pe_ix ix_tup (pv 4) pe_int (fun _ _ => rfl)) (pa_cons (pe_op op_sub (pv 1) pe_int) pa_nil))))
    (pss_cons (ps_if (pt_cmpR op_isN (pv 5) pe_non (nomark _))
      (pss_one (ps_ret pe_non))
      pss_nil)
    (pss_cons (ps_aug (i := 2) nd rfl (.inl rfl) (pe_ix ix_tup (pv 5) pe_int (fun _ _ => rfl)) ip_add)
    (pss_one (ps_aug (i := 3) nd rfl (.inl rfl) (pe_op op_add pe_int (pe_ix ix_tup (pv 5) pe_int (fun _ _ => rfl))) ip_add)))))))))
    (pss_cons (ps_if (PW.pt (pw_or (pt_cmpR op_gt (pv 2) (pe_glob (v := .int 100) rfl G_MOST_INSTRUCTIONS ⟨_, rfl⟩) (nomark _)) (pw_or1 (pt_cmpR op_gt (pv 3) (pe_glob (v := .int 5) rfl G_MOST_REPEATS ⟨_, rfl⟩) (nomark _)))))
      (pss_one (ps_ret pe_non))
      pss_nil)
    (pss_one (ps_ret (pe_tup (pa_cons (pv 2) (pa_cons (pv 3) pa_nil)))))))))), ?_⟩
      have dX : Dp K H (.ref a) (.tuple ds) := .tup hs dall
      refine ⟨_, rfl, sl_of (show 2 ≤ 1000000 by decide), fun T0 nT0 => ?_⟩
      have s1 := same_new nT0 (o := HO.tup [V.ty "list", V.ty "tuple"])
      refine ⟨.ref a, T0, _, _, _, true, rfl, upd_same, .cons (.ty "list") (.cons (.ty "tuple") .nil), Dp.ty (Dp.same s1 dX), ?_, _, rfl, iteF ?_⟩
      · exact kitAny_cons (b := false) (r := true) (kit_ty (show kitB "tuple" "list" = some false by decide +kernel)) (fun _ => kitAny_cons (b := true) (r := true) (kit_ty (show kitB "tuple" "tuple" = some true by decide +kernel)) (fun z => by cases z) (fun _ => rfl)) (fun z => by cases z)
      have hs := same_t s1 hs
      have hI := hI.same s1
      generalize upd H T0 (HO.tup [V.ty "list", V.ty "tuple"]) = H1 at s1 hs hI ⊢
      refine ⟨_, rfl, a, _, rfl, .inr hs, ?_⟩
      refine ⟨_, rfl, a, rfl, ⟨_, hs⟩, for_tup (K := K) (a := a) (xs := xs) (fun j σ H2 => ∃ (y4 y5 : Option V), σ = [some (.ref a), some (.int d), some (.int ((cnP (b.take j) + (b.length - j) : Nat) : Int)), some (.int ((sdP (b.take j)).length : Int)), y4, y5] ∧ Same H1 H2) ⟨none, none, ?_, Same.refl _⟩ ?_ ?_ ?_⟩
      · rw [List.take_zero, show cnP [] = 0 by rw [cnP], sdP_nil, lx]
        simp
        rfl
      · rintro j σ H2 _ ⟨_, _, _, s2⟩
        exact same_t s2 hs
      · rintro j x σ H2 hj ⟨y4, y5, rfl, s2⟩
        obtain ⟨i, hi, hx0⟩ := hI.get hj
        have hm := List.mem_of_getElem? hi
        have hjl : j < b.length := (List.getElem?_eq_some_iff.mp hi).1
        have ts := take_snoc hi
        have splitb := List.take_append_drop (j + 1) b
        have cnb : cnP (b.take (j + 1)) + cnP (b.drop (j + 1)) = cnP b := by rw [← cnP_app, splitb]
        have sdb : (sdP (b.take (j + 1))).length + (sdP (b.drop (j + 1))).length = (sdP b).length := by rw [← List.length_append, ← sdP_app, splitb]
        have lend := len_cnP (b.drop (j + 1))
        rw [List.length_drop] at lend
        have cni : cnP (b.take (j + 1)) = cnP (b.take j) + cnI i := by
          rw [ts, cnP_app, cnP_cons, show cnP [] = 0 by rw [cnP]]
          omega
        have sdi : (sdP (b.take (j + 1))).length = (sdP (b.take j)).length + (sdI i).length := by
          rw [ts, sdP_app, sdP_one, List.length_append]
        have cpos := cnI_pos i
        refine ⟨_, rfl, _, 100, rfl, rfl, _, rfl, iteN (by omega) ?_⟩
        refine ⟨_, rfl, _, 5, rfl, rfl, _, rfl, iteN (by omega) ?_⟩
        have hx := hx0.same s2
        have ci := CP_mem hcp hm
        refine ⟨_, rfl, x, i, rfl, hx, ci, fun H3 s3 => ⟨_, rfl, ?_⟩⟩
        have s23 := s2.trans s3
        rcases (hx0.same s23).inv with ⟨e, c, rfl, ht0, rfl⟩ | ⟨e, c, rfl, ht0, rfl⟩ | ⟨e, c, y, bb, rfl, ht0, hy0, rfl⟩
        · refine iteT ?_
          rw [cnI] at cni
          rw [sdI] at sdi
          exact ⟨some (.ref e), y5, by rw [cni, sdi, show cnP (b.take j) + 1 + (b.length - (j + 1)) = cnP (b.take j) + (b.length - j) by omega]; rfl, s23⟩
        · refine iteT ?_
          rw [cnI] at cni
          rw [sdI] at sdi
          exact ⟨some (.ref e), y5, by rw [cni, sdi, show cnP (b.take j) + 1 + (b.length - (j + 1)) = cnP (b.take j) + (b.length - j) by omega]; rfl, s23⟩
        · refine iteF ?_
          have di := dpP_mem hm
          rw [dpI] at di
          have ni := NP_mem hnp hm
          rw [NI] at ni
          have ri := RP_mem hrp hm
          rw [RI] at ri
          rw [CI] at ci
          rw [cnI] at cni
          rw [sdI, List.length_cons] at sdi
          refine ⟨_, rfl, rfl, _, rfl, iteN (fun z => absurd (V.int.inj z) (by omega)) ?_⟩
          refine ⟨_, rfl, .ref e, c, bb, rfl, hx0.same s23, ni.1, ri.1, _, rfl, iteF ?_⟩
          refine ⟨_, rfl, e, _, 2, _, rfl, rfl, ht0, rfl, _, rfl, _, _, rfl, rfl, y, d - 1, bb, rfl, hy0, by omega, by omega, by omega, by omega, ci, ni.2, ri.2, by omega, by omega, fun T H4 s4 hT => ?_⟩
          refine ⟨_, rfl, rfl, _, rfl, iteN (fun z => by cases z) ?_⟩
          refine ⟨_, rfl, _, rfl, T, _, 0, _, rfl, rfl, hT, rfl, _, _, rfl, rfl, ?_⟩
          refine ⟨_, rfl, _, rfl, T, _, 1, _, rfl, rfl, hT, rfl, _, _, rfl, rfl, _, _, rfl, rfl, ?_⟩
          refine ⟨some (.ref e), some (.ref T), ?_, s23.trans s4⟩
          rw [cni, sdi]
          have e1 : ((cnP (b.take j) + (cnP bb + 1) + (b.length - (j + 1)) : Nat) : Int) = ((cnP (b.take j) + (b.length - j) : Nat) : Int) + (cnP bb : Int) := by omega
          have e2 : (((sdP (b.take j)).length + ((sdP bb).length + 1) : Nat) : Int) = ((sdP (b.take j)).length : Int) + (1 + ((sdP bb).length : Int)) := by omega
          rw [e1, e2]
          rfl
      · rintro σ H2 ⟨y4, y5, rfl, s2⟩
        rw [hI.len, List.take_length, Nat.sub_self, Nat.add_zero]
        refine ⟨_, rfl, _, 100, rfl, rfl, _, rfl, iteN (by omega) ?_⟩
        refine ⟨_, rfl, _, 5, rfl, rfl, _, rfl, iteN (by omega) ?_⟩
        refine ⟨_, rfl, _, rfl, sl_of (show 2 ≤ 1000000 by decide), fun T nT => ?_⟩
        exact q T _ (s1.trans (s2.trans (same_new nT))) (SqT.of upd_same)
theorem sc_is_program : FnScope ["value"] ["value"] (defScope s_is_program) := ⟨rfl, rfl, rfl, by decide +kernel, rfl, by decide +kernel, by decide +kernel⟩
theorem ok_is_program {f : Addr} {fd : FuncData} (F : Fun K "is_program" "is_program" s_is_program f fd) (B : Blt mg) {tk : Tok} (G_DEEPEST : mg "DEEPEST" = some (.int 2 tk)) (C_sizes_of : Cal P w K mg base (3 + 3) "sizes_of" (sp_sizes_of K 3)) : FnOk P w K mg base CX0 7 f fd ["value"] (sp_is_program K) := by
  refine F.ok sc_is_program (fun vs H Q E h => ?_) (fun cdv A outer s H vs Q E hr h => ?_)
  · obtain ⟨v, b, rfl, _⟩ := h
    rfl
  · obtain ⟨v, b, rfl, hv, hd, hcp, hnp, hrp, hcn, hsd, k⟩ := h
    have nd := sc_is_program.nd
    refine ⟨_, (pss_one (ps_ret (pe_cmpR op_notN (pe_c C_sizes_of hr (by decide) (by rfl) (pa_cons (pv 0) (pa_cons (pe_glob (v := .int 2) rfl G_DEEPEST ⟨_, rfl⟩) pa_nil))) pe_non (nomark _)))), ?_⟩
    refine ⟨_, rfl, v, 2, b, rfl, hv, hd, by decide, by omega, by decide, hcp, hnp, hrp, hcn, hsd, fun T H' s' hT => ?_⟩
    refine ⟨rfl, ?_⟩
    exact k H' s'
theorem sc_copied : FnScope ["program", "rows", "row"] ["program"] (defScope s_copied) := ⟨rfl, rfl, rfl, by decide +kernel, rfl, by decide +kernel, by decide +kernel⟩
theorem ok_copied (k : Nat) (C_copied : Cal P w K mg base (k + 0) "copied" (sp_copied K k)) {f : Addr} {fd : FuncData} (F : Fun K "copied" "copied" s_copied f fd) (B : Blt mg) : FnOk P w K mg base CX0 (k + 0 + 1) f fd ["program"] (sp_copied K (k + 1)) := by
  refine F.ok sc_copied (fun vs H Q E h => ?_) (fun cdv A outer s H vs Q E hr h => ?_)
  · obtain ⟨v, d, b, rfl, _⟩ := h
    rfl
  · obtain ⟨v, d, b, rfl, hv, hp, hd, hk, hc, q⟩ := h
    have nd := sc_copied.nd
    have hlb : b.length ≤ 1000 := Nat.le_trans (len_cnP b) hc
    cases hp
    · rename_i ds hall
      cases hv
      rename_i a xs hs hds
      have hlen := DpAll.len hds
      have hlen2 := hall.len
      refine ⟨_, (pss_cons (ps_setLc (i := 1) (own := [("row", 2)]) (by rfl) nd rfl rfl (sw_true rfl rfl rfl (by decide +kernel)) (pi_list (pv 0)) (blkOk_by (N := ["program", "rows", "row"]) (sc := defScope s_copied) (own := [("row", 2)]) (by decide +kernel)) (fun _ _ _ _ _ => (pg_name (i := 2) nd rfl (.inl rfl))) (fun _ _ _ _ _ => pts_nil) (fun _ _ _ _ _ => (pe_ifExp (pt_cmpR op_ne (pe_ix (ix_tupK K rfl) (pv 2) pe_int (fun _ _ => rfl)) pe_str (nomark _)) (pv 2) (pe_tup (pa_cons (pe_ix (ix_tupK K rfl) (pv 2) pe_int (fun _ _ => rfl)) (pa_cons (pe_ix (ix_tupK K rfl) (pv 2) pe_int (fun _ _ => rfl)) (pa_cons (pe_c C_copied hr (by omega) (by rfl) (pa_cons (pe_ix (ix_tupK K rfl) (pv 2) pe_int (fun _ _ => rfl)) pa_nil)) pa_nil)))))))
    (pss_one (ps_ret (pe_ifExp (pt_val (pe_callB call_isi (by rfl) B.isinstance (by decide +kernel) (pa_cons (pv 0) (pa_cons (pe_bltn (v := .ty "list") (u := .type "list") (by rfl) B.list (by decide +kernel) rfl) pa_nil)))) (pv 1) (pe_callTy call_tuple_of (by rfl) B.tuple (by decide +kernel) (pa_cons (pv 1) pa_nil)))))), ?_⟩
      dsimp only [tAsg]
      refine ⟨_, rfl, a, rfl, ⟨_, hs⟩, fun D nD => lc_list (K := K) (a := a) (xs := xs) (fun m H2 => Same H H2 ∧ ∃ ys, H2 D = some (.lst ys) ∧ DpAll K (er1 D (er H H2)) ys (ds.take m)) ⟨same_new nD, [], upd_same, .nil⟩ (fun m H2 _ g => same_l g.1 hs) ?_ ?_⟩
      · rintro m x H2 hm ⟨s2, ys, hD, hY⟩
        obtain ⟨dd, hdd, hx⟩ := DpAll.get hds hm
        obtain ⟨i, hi, hI⟩ := hall.get hdd
        have ml : m < ds.length := (List.getElem?_eq_some_iff.mp hdd).1
        have yl := DpAll.len hY
        rw [List.length_take] at yl
        have hm2 := List.mem_of_getElem? hi
        refine ⟨rfl, ?_⟩
        have fin : ∀ (y : V) (H3 : Hp), Same H2 H3 → Dp K (er1 D (er H H3)) y dd → ∃ acc, H3 D = some (.lst acc) ∧ acc.length < sizeLine ∧ Same H (upd H3 D (.lst (acc ++ [y]))) ∧ ∃ ys, (upd H3 D (.lst (acc ++ [y]))) D = some (.lst ys) ∧ DpAll K (er1 D (er H (upd H3 D (.lst (acc ++ [y]))))) ys (ds.take (m + 1)) := fun y H3 s3 hy => by
          refine ⟨ys, s3 _ _ hD, sl_lt (by omega), same_mut (s2.trans s3) nD, _, upd_same, ?_⟩
          rw [take_snoc hdd]
          exact DpAll.append (DpAll.same ((er1_sameS s3).trans er1_updS) hY) (.cons (Dp.same er1_updS hy) .nil)
        have told := er_oldS s2 nD
        rcases (show IV K H x i from ⟨dd, hx, hI⟩).inv with ⟨c, n, rfl, ht, rfl⟩ | ⟨c, n, rfl, ht, rfl⟩ | ⟨c, n, y, bb, rfl, ht, hy, rfl⟩
        · have ht2 := same_t s2 ht
          refine ⟨_, rfl, c, _, 0, _, rfl, rfl, ht2, rfl, rfl, _, rfl, iteNN v_sr ?_⟩
          cases hI
          exact ⟨_, rfl, fin _ _ (Same.refl _) (.tup (tp_t told ht) (.cons (.str _) (.cons (.int _) .nil)))⟩
        · have ht2 := same_t s2 ht
          refine ⟨_, rfl, c, _, 0, _, rfl, rfl, ht2, rfl, rfl, _, rfl, iteNN v_tr ?_⟩
          cases hI
          exact ⟨_, rfl, fin _ _ (Same.refl _) (.tup (tp_t told ht) (.cons (.str _) (.cons (.int _) .nil)))⟩
        · have ht2 := same_t s2 ht
          refine ⟨_, rfl, c, _, 0, _, rfl, rfl, ht2, rfl, rfl, _, rfl, iteNS rfl ?_⟩
          have hdi := dpP_mem hm2
          rw [dpI] at hdi
          have hci := cnP_mem hm2
          rw [cnI] at hci
          obtain ⟨d2, rfl, hp2⟩ := hI.rep_inv
          obtain ⟨c', y', ec, ht3, hy3⟩ := Dp.three hx
          cases ec
          have ht4 := same_t s2 ht3
          refine ⟨_, rfl, c, _, 0, _, rfl, rfl, ht4, rfl, _, rfl, c, _, 1, _, rfl, rfl, ht4, rfl, _, rfl, c, _, 2, _, rfl, rfl, ht4, rfl, y', d2, bb, rfl, Dp.same s2 hy3, hp2, by omega, by omega, by omega, fun v' H3 s3 hv' => ⟨sl_of (show 3 ≤ 1000000 by decide), fun t nt => ?_⟩⟩
          have st := same_new nt (o := HO.tup [V.str "repeat", V.int n, v'])
          have hD3 := s3 _ _ hD
          refine fin (.ref t) _ (s3.trans st) (.tup (SqT.of ?_) (.cons (.str _) (.cons (.int _) (.cons (Dp.same ((er_inS s2 hD).trans (er1_sameS st)) hv') .nil))))
          refine er1_of (ne_of_none hD3 nt).symm (er_of upd_same fun ws z => ?_)
          rw [(s2.trans s3) _ _ z] at nt
          cases nt
      · rintro H2 ⟨s2, ys, hD, hY⟩
        rw [hlen, List.take_length] at hY
        have hY2 : DpAll K (er H H2) ys ds := DpAll.same (fun b o e => (er1_at e).2) hY
        have two : ∀ {l : Addr} {o : HO} {H3 : Hp}, H3 l = some o → (∀ ws, H l ≠ some (.lst ws)) → er H H3 l = some o := fun e n => er_of e n
        refine ⟨_, rfl, .ref a, .ty "list", _, _, _, rfl, .ty "list", DpE.ty (Dp.e (.lst (same_l s2 hs) (DpAll.same s2 hds))), kit_list K (.list ds), _, rfl, iteT ?_⟩
        exact ⟨_, rfl, q (.ref D) H2 s2 (.lst (SqL.of (er_of hD fun ws z => by rw [nD] at z; cases z)) hY2)⟩
    · rename_i ds hall
      cases hv
      rename_i a xs hs hds
      have hlen := DpAll.len hds
      have hlen2 := hall.len
      refine ⟨_, (pss_cons (ps_setLc (i := 1) (own := [("row", 2)]) (by rfl) nd rfl rfl (sw_true rfl rfl rfl (by decide +kernel)) (pi_tup (pv 0)) (blkOk_by (N := ["program", "rows", "row"]) (sc := defScope s_copied) (own := [("row", 2)]) (by decide +kernel)) (fun _ _ _ _ _ => (pg_name (i := 2) nd rfl (.inl rfl))) (fun _ _ _ _ _ => pts_nil) (fun _ _ _ _ _ => (pe_ifExp (pt_cmpR op_ne (pe_ix (ix_tupK K rfl) (pv 2) pe_int (fun _ _ => rfl)) pe_str (nomark _)) (pv 2) (pe_tup (pa_cons (pe_ix (ix_tupK K rfl) (pv 2) pe_int (fun _ _ => rfl)) (pa_cons (pe_ix (ix_tupK K rfl) (pv 2) pe_int (fun _ _ => rfl)) (pa_cons (pe_c C_copied hr (by omega) (by rfl) (pa_cons (pe_ix (ix_tupK K rfl) (pv 2) pe_int (fun _ _ => rfl)) pa_nil)) pa_nil)))))))
    (pss_one (ps_ret (pe_ifExp (pt_val (pe_callB call_isi (by rfl) B.isinstance (by decide +kernel) (pa_cons (pv 0) (pa_cons (pe_bltn (v := .ty "list") (u := .type "list") (by rfl) B.list (by decide +kernel) rfl) pa_nil)))) (pv 1) (pe_callTy call_tuple_of (by rfl) B.tuple (by decide +kernel) (pa_cons (pv 1) pa_nil)))))), ?_⟩
      dsimp only [tAsg]
      refine ⟨_, rfl, a, rfl, ⟨_, hs⟩, fun D nD => lc_tup (K := K) (a := a) (xs := xs) (fun m H2 => Same H H2 ∧ ∃ ys, H2 D = some (.lst ys) ∧ DpAll K (er1 D (er H H2)) ys (ds.take m)) ⟨same_new nD, [], upd_same, .nil⟩ (fun m H2 _ g => same_t g.1 hs) ?_ ?_⟩
      · rintro m x H2 hm ⟨s2, ys, hD, hY⟩
        obtain ⟨dd, hdd, hx⟩ := DpAll.get hds hm
        obtain ⟨i, hi, hI⟩ := hall.get hdd
        have ml : m < ds.length := (List.getElem?_eq_some_iff.mp hdd).1
        have yl := DpAll.len hY
        rw [List.length_take] at yl
        have hm2 := List.mem_of_getElem? hi
        refine ⟨rfl, ?_⟩
        have fin : ∀ (y : V) (H3 : Hp), Same H2 H3 → Dp K (er1 D (er H H3)) y dd → ∃ acc, H3 D = some (.lst acc) ∧ acc.length < sizeLine ∧ Same H (upd H3 D (.lst (acc ++ [y]))) ∧ ∃ ys, (upd H3 D (.lst (acc ++ [y]))) D = some (.lst ys) ∧ DpAll K (er1 D (er H (upd H3 D (.lst (acc ++ [y]))))) ys (ds.take (m + 1)) := fun y H3 s3 hy => by
          refine ⟨ys, s3 _ _ hD, sl_lt (by omega), same_mut (s2.trans s3) nD, _, upd_same, ?_⟩
          rw [take_snoc hdd]
          exact DpAll.append (DpAll.same ((er1_sameS s3).trans er1_updS) hY) (.cons (Dp.same er1_updS hy) .nil)
        have told := er_oldS s2 nD
        rcases (show IV K H x i from ⟨dd, hx, hI⟩).inv with ⟨c, n, rfl, ht, rfl⟩ | ⟨c, n, rfl, ht, rfl⟩ | ⟨c, n, y, bb, rfl, ht, hy, rfl⟩
        · have ht2 := same_t s2 ht
          refine ⟨_, rfl, c, _, 0, _, rfl, rfl, ht2, rfl, rfl, _, rfl, iteNN v_sr ?_⟩
          cases hI
          exact ⟨_, rfl, fin _ _ (Same.refl _) (.tup (tp_t told ht) (.cons (.str _) (.cons (.int _) .nil)))⟩
        · have ht2 := same_t s2 ht
          refine ⟨_, rfl, c, _, 0, _, rfl, rfl, ht2, rfl, rfl, _, rfl, iteNN v_tr ?_⟩
          cases hI
          exact ⟨_, rfl, fin _ _ (Same.refl _) (.tup (tp_t told ht) (.cons (.str _) (.cons (.int _) .nil)))⟩
        · have ht2 := same_t s2 ht
          refine ⟨_, rfl, c, _, 0, _, rfl, rfl, ht2, rfl, rfl, _, rfl, iteNS rfl ?_⟩
          have hdi := dpP_mem hm2
          rw [dpI] at hdi
          have hci := cnP_mem hm2
          rw [cnI] at hci
          obtain ⟨d2, rfl, hp2⟩ := hI.rep_inv
          obtain ⟨c', y', ec, ht3, hy3⟩ := Dp.three hx
          cases ec
          have ht4 := same_t s2 ht3
          refine ⟨_, rfl, c, _, 0, _, rfl, rfl, ht4, rfl, _, rfl, c, _, 1, _, rfl, rfl, ht4, rfl, _, rfl, c, _, 2, _, rfl, rfl, ht4, rfl, y', d2, bb, rfl, Dp.same s2 hy3, hp2, by omega, by omega, by omega, fun v' H3 s3 hv' => ⟨sl_of (show 3 ≤ 1000000 by decide), fun t nt => ?_⟩⟩
          have st := same_new nt (o := HO.tup [V.str "repeat", V.int n, v'])
          have hD3 := s3 _ _ hD
          refine fin (.ref t) _ (s3.trans st) (.tup (SqT.of ?_) (.cons (.str _) (.cons (.int _) (.cons (Dp.same ((er_inS s2 hD).trans (er1_sameS st)) hv') .nil))))
          refine er1_of (ne_of_none hD3 nt).symm (er_of upd_same fun ws z => ?_)
          rw [(s2.trans s3) _ _ z] at nt
          cases nt
      · rintro H2 ⟨s2, ys, hD, hY⟩
        rw [hlen, List.take_length] at hY
        have hY2 : DpAll K (er H H2) ys ds := DpAll.same (fun b o e => (er1_at e).2) hY
        have two : ∀ {l : Addr} {o : HO} {H3 : Hp}, H3 l = some o → (∀ ws, H l ≠ some (.lst ws)) → er H H3 l = some o := fun e n => er_of e n
        refine ⟨_, rfl, .ref a, .ty "list", _, _, _, rfl, .ty "list", DpE.ty (Dp.e (.tup (same_t s2 hs) (DpAll.same s2 hds))), kit_list K (.tuple ds), _, rfl, iteF ?_⟩
        refine ⟨_, rfl, D, _, rfl, .inl ⟨SqL.of hD, fun l nl => q (.ref l) _ (s2.trans (same_new nl)) (.tup (SqT.of (er_of upd_same fun ws z => ?_)) (DpAll.same (er_same (same_new nl)) hY2))⟩⟩
        rw [s2 _ _ z] at nl
        cases nl
theorem sc_shift_of : FnScope ["program", "shift", "instruction"] ["program"] (defScope s_shift_of) := ⟨rfl, rfl, rfl, by decide +kernel, rfl, by decide +kernel, by decide +kernel⟩
theorem ok_shift_of (k : Nat) (C_shift_of : Cal P w K mg base (k + 0) "shift_of" (sp_shift_of K k)) {f : Addr} {fd : FuncData} (F : Fun K "shift_of" "shift_of" s_shift_of f fd) (B : Blt mg) : FnOk P w K mg base CX0 (k + 0 + 1) f fd ["program"] (sp_shift_of K (k + 1)) := by
  refine F.ok sc_shift_of (fun vs H Q E h => ?_) (fun cdv A outer s H vs Q E hr h => ?_)
  · obtain ⟨v, b, rfl, _⟩ := h
    rfl
  · obtain ⟨v, b, rfl, hv, hd, hk, hw, hl, q⟩ := h
    have nd := sc_shift_of.nd
    obtain ⟨a, xs, rfl, hsq, hI⟩ := hv.inv
    rcases hsq with hs | hs
    · refine ⟨_, (pss_cons (ps_set (i := 1) nd rfl (.inl rfl) pe_int)
    (pss_cons (ps_for PassesOwn.never rfl (pi_list (pv 0)) (pg_name (i := 2) nd rfl (.inl rfl))
      (pss_one (ps_if (pt_cmpR op_eq (pe_ix ix_tup (pv 2) pe_int (fun _ _ => rfl)) pe_str (nomark _))
      (pss_one (ps_aug (i := 1) nd rfl (.inl rfl) (pe_ix ix_tup (pv 2) pe_int (fun _ _ => rfl)) ip_add))
      (pss_one (ps_if (pt_cmpR op_eq (pe_ix ix_tup (pv 2) pe_int (fun _ _ => rfl)) pe_str (nomark _))
      (pss_one (ps_aug (i := 1) nd rfl (.inl rfl) (pe_op op_mulW (pe_ix ix_tup (pv 2) pe_int (fun _ _ => rfl)) (pe_c C_shift_of hr (by omega) (by rfl) (pa_cons (pe_ix ix_tup (pv 2) pe_int (fun _ _ => rfl)) pa_nil))) ip_add))
      pss_nil)))))
    (pss_one (ps_ret (pv 1))))), ?_⟩
      refine ⟨_, rfl, a, rfl, ⟨_, hs⟩, for_list (K := K) (a := a) (xs := xs) (fun j σ H2 => ∃ y, σ = [some (.ref a), some (.int (shP (b.take j))), y] ∧ H2 = H) ⟨none, by rw [List.take_zero, shP_nil]; rfl, rfl⟩ ?_ ?_ ?_⟩
      · rintro j σ H2 _ ⟨y, _, rfl⟩
        exact hs
      · rintro j x σ H2 hj ⟨y, rfl, rfl⟩
        obtain ⟨i, hi, hx⟩ := hI.get hj
        have hm := List.mem_of_getElem? hi
        rcases hx.inv with ⟨c, n, rfl, ht, rfl⟩ | ⟨c, n, rfl, ht, rfl⟩ | ⟨c, n, y, bb, rfl, ht, hy, rfl⟩
        · refine ⟨_, rfl, c, _, 0, _, rfl, rfl, ht, rfl, rfl, _, rfl, iteS rfl ?_⟩
          refine ⟨_, rfl, _, rfl, c, _, 1, _, rfl, rfl, ht, rfl, _, _, rfl, rfl, some (.ref c), ?_, rfl⟩
          rw [shP_snoc hi, shI]
          rfl
        · refine ⟨_, rfl, c, _, 0, _, rfl, rfl, ht, rfl, rfl, _, rfl, iteN v_ts ?_⟩
          refine ⟨_, rfl, c, _, 0, _, rfl, rfl, ht, rfl, rfl, _, rfl, iteN v_tr ?_⟩
          refine ⟨some (.ref c), ?_, rfl⟩
          rw [shP_snoc hi, shI, Int.add_zero]
          rfl
        · refine ⟨_, rfl, c, _, 0, _, rfl, rfl, ht, rfl, rfl, _, rfl, iteN v_rs ?_⟩
          refine ⟨_, rfl, c, _, 0, _, rfl, rfl, ht, rfl, rfl, _, rfl, iteS rfl ?_⟩
          have hdi := dpP_mem hm
          rw [dpI] at hdi
          have wi := WP_mem hw hm
          rw [WI] at wi
          refine ⟨_, rfl, _, rfl, c, _, 1, _, rfl, rfl, ht, rfl, _, rfl, c, _, 2, _, rfl, rfl, ht, rfl, y, bb, rfl, hy, by omega, by omega, wi.2.2, wi.2.1, n, shP bb, rfl, rfl, wide_mul (a := 101) (b := 331) (Nat.lt_of_le_of_lt wi.1 (by decide +kernel)) (sh_lt (k := k) (by omega) (by omega) wi.2.2 wi.2.1) (by decide) (by decide) (by decide), _, _, rfl, rfl, some (.ref c), ?_, rfl⟩
          rw [shP_snoc hi, shI]
          rfl
      · rintro σ H2 ⟨y, rfl, rfl⟩
        rw [hI.len, List.take_length]
        exact ⟨_, rfl, q⟩
    · refine ⟨_, (pss_cons (ps_set (i := 1) nd rfl (.inl rfl) pe_int)
    (pss_cons (ps_for PassesOwn.never rfl (pi_tup (pv 0)) (pg_name (i := 2) nd rfl (.inl rfl))
      (pss_one (ps_if (pt_cmpR op_eq (pe_ix ix_tup (pv 2) pe_int (fun _ _ => rfl)) pe_str (nomark _))
      (pss_one (ps_aug (i := 1) nd rfl (.inl rfl) (pe_ix ix_tup (pv 2) pe_int (fun _ _ => rfl)) ip_add))
      (pss_one (ps_if (pt_cmpR op_eq (pe_ix ix_tup (pv 2) pe_int (fun _ _ => rfl)) pe_str (nomark _))
      (pss_one (ps_aug (i := 1) nd rfl (.inl rfl) (pe_op op_mulW (pe_ix ix_tup (pv 2) pe_int (fun _ _ => rfl)) (pe_c C_shift_of hr (by omega) (by rfl) (pa_cons (pe_ix ix_tup (pv 2) pe_int (fun _ _ => rfl)) pa_nil))) ip_add))
      pss_nil)))))
    (pss_one (ps_ret (pv 1))))), ?_⟩
      refine ⟨_, rfl, a, rfl, ⟨_, hs⟩, for_tup (K := K) (a := a) (xs := xs) (fun j σ H2 => ∃ y, σ = [some (.ref a), some (.int (shP (b.take j))), y] ∧ H2 = H) ⟨none, by rw [List.take_zero, shP_nil]; rfl, rfl⟩ ?_ ?_ ?_⟩
      · rintro j σ H2 _ ⟨y, _, rfl⟩
        exact hs
      · rintro j x σ H2 hj ⟨y, rfl, rfl⟩
        obtain ⟨i, hi, hx⟩ := hI.get hj
        have hm := List.mem_of_getElem? hi
        rcases hx.inv with ⟨c, n, rfl, ht, rfl⟩ | ⟨c, n, rfl, ht, rfl⟩ | ⟨c, n, y, bb, rfl, ht, hy, rfl⟩
        · refine ⟨_, rfl, c, _, 0, _, rfl, rfl, ht, rfl, rfl, _, rfl, iteS rfl ?_⟩
          refine ⟨_, rfl, _, rfl, c, _, 1, _, rfl, rfl, ht, rfl, _, _, rfl, rfl, some (.ref c), ?_, rfl⟩
          rw [shP_snoc hi, shI]
          rfl
        · refine ⟨_, rfl, c, _, 0, _, rfl, rfl, ht, rfl, rfl, _, rfl, iteN v_ts ?_⟩
          refine ⟨_, rfl, c, _, 0, _, rfl, rfl, ht, rfl, rfl, _, rfl, iteN v_tr ?_⟩
          refine ⟨some (.ref c), ?_, rfl⟩
          rw [shP_snoc hi, shI, Int.add_zero]
          rfl
        · refine ⟨_, rfl, c, _, 0, _, rfl, rfl, ht, rfl, rfl, _, rfl, iteN v_rs ?_⟩
          refine ⟨_, rfl, c, _, 0, _, rfl, rfl, ht, rfl, rfl, _, rfl, iteS rfl ?_⟩
          have hdi := dpP_mem hm
          rw [dpI] at hdi
          have wi := WP_mem hw hm
          rw [WI] at wi
          refine ⟨_, rfl, _, rfl, c, _, 1, _, rfl, rfl, ht, rfl, _, rfl, c, _, 2, _, rfl, rfl, ht, rfl, y, bb, rfl, hy, by omega, by omega, wi.2.2, wi.2.1, n, shP bb, rfl, rfl, wide_mul (a := 101) (b := 331) (Nat.lt_of_le_of_lt wi.1 (by decide +kernel)) (sh_lt (k := k) (by omega) (by omega) wi.2.2 wi.2.1) (by decide) (by decide) (by decide), _, _, rfl, rfl, some (.ref c), ?_, rfl⟩
          rw [shP_snoc hi, shI]
          rfl
      · rintro σ H2 ⟨y, rfl, rfl⟩
        rw [hI.len, List.take_length]
        exact ⟨_, rfl, q⟩
theorem sc_executed : FnScope ["program", "total", "instruction"] ["program"] (defScope s_executed) := ⟨rfl, rfl, rfl, by decide +kernel, rfl, by decide +kernel, by decide +kernel⟩
theorem ok_executed (k : Nat) (C_executed : Cal P w K mg base (k + 0) "executed" (sp_executed K k)) {f : Addr} {fd : FuncData} (F : Fun K "executed" "executed" s_executed f fd) (B : Blt mg) : FnOk P w K mg base CX0 (k + 0 + 1) f fd ["program"] (sp_executed K (k + 1)) := by
  refine F.ok sc_executed (fun vs H Q E h => ?_) (fun cdv A outer s H vs Q E hr h => ?_)
  · obtain ⟨v, b, rfl, _⟩ := h
    rfl
  · obtain ⟨v, b, rfl, hv, hd, hk, hw, hl, q⟩ := h
    have nd := sc_executed.nd
    obtain ⟨a, xs, rfl, hsq, hI⟩ := hv.inv
    rcases hsq with hs | hs
    · refine ⟨_, (pss_cons (ps_set (i := 1) nd rfl (.inl rfl) pe_int)
    (pss_cons (ps_for PassesOwn.never rfl (pi_list (pv 0)) (pg_name (i := 2) nd rfl (.inl rfl))
      (pss_one (ps_if (pt_cmpR op_eq (pe_ix ix_tup (pv 2) pe_int (fun _ _ => rfl)) pe_str (nomark _))
      (pss_one (ps_aug (i := 1) nd rfl (.inl rfl) (pe_op op_mulW (pe_ix ix_tup (pv 2) pe_int (fun _ _ => rfl)) (pe_c C_executed hr (by omega) (by rfl) (pa_cons (pe_ix ix_tup (pv 2) pe_int (fun _ _ => rfl)) pa_nil))) ip_add))
      (pss_one (ps_aug (i := 1) nd rfl (.inl rfl) pe_int ip_add)))))
    (pss_one (ps_ret (pv 1))))), ?_⟩
      refine ⟨_, rfl, a, rfl, ⟨_, hs⟩, for_list (K := K) (a := a) (xs := xs) (fun j σ H2 => ∃ y, σ = [some (.ref a), some (.int (exP (b.take j))), y] ∧ H2 = H) ⟨none, by rw [List.take_zero, exP_nil]; rfl, rfl⟩ ?_ ?_ ?_⟩
      · rintro j σ H2 _ ⟨y, _, rfl⟩
        exact hs
      · rintro j x σ H2 hj ⟨y, rfl, rfl⟩
        obtain ⟨i, hi, hx⟩ := hI.get hj
        have hm := List.mem_of_getElem? hi
        rcases hx.inv with ⟨c, n, rfl, ht, rfl⟩ | ⟨c, n, rfl, ht, rfl⟩ | ⟨c, n, y, bb, rfl, ht, hy, rfl⟩
        · refine ⟨_, rfl, c, _, 0, _, rfl, rfl, ht, rfl, rfl, _, rfl, iteN v_sr ?_⟩
          refine ⟨_, rfl, _, _, rfl, rfl, some (.ref c), ?_, rfl⟩
          rw [exP_snoc hi, exI]
          rfl
        · refine ⟨_, rfl, c, _, 0, _, rfl, rfl, ht, rfl, rfl, _, rfl, iteN v_tr ?_⟩
          refine ⟨_, rfl, _, _, rfl, rfl, some (.ref c), ?_, rfl⟩
          rw [exP_snoc hi, exI]
          rfl
        · refine ⟨_, rfl, c, _, 0, _, rfl, rfl, ht, rfl, rfl, _, rfl, iteS rfl ?_⟩
          have hdi := dpP_mem hm
          rw [dpI] at hdi
          have wi := WP_mem hw hm
          rw [WI] at wi
          refine ⟨_, rfl, _, rfl, c, _, 1, _, rfl, rfl, ht, rfl, _, rfl, c, _, 2, _, rfl, rfl, ht, rfl, y, bb, rfl, hy, by omega, by omega, wi.2.2, wi.2.1, n, exP bb, rfl, rfl, wide_mul (a := 101) (b := 331) (Nat.lt_of_le_of_lt wi.1 (by decide +kernel)) (ex_lt (k := k) (by omega) (by omega) wi.2.2 wi.2.1) (by decide) (by decide) (by decide), _, _, rfl, rfl, some (.ref c), ?_, rfl⟩
          rw [exP_snoc hi, exI]
          rfl
      · rintro σ H2 ⟨y, rfl, rfl⟩
        rw [hI.len, List.take_length]
        exact ⟨_, rfl, q⟩
    · refine ⟨_, (pss_cons (ps_set (i := 1) nd rfl (.inl rfl) pe_int)
    (pss_cons (ps_for PassesOwn.never rfl (pi_tup (pv 0)) (pg_name (i := 2) nd rfl (.inl rfl))
      (pss_one (ps_if (pt_cmpR op_eq (pe_ix ix_tup (pv 2) pe_int (fun _ _ => rfl)) pe_str (nomark _))
      (pss_one (ps_aug (i := 1) nd rfl (.inl rfl) (pe_op op_mulW (pe_ix ix_tup (pv 2) pe_int (fun _ _ => rfl)) (pe_c C_executed hr (by omega) (by rfl) (pa_cons (pe_ix ix_tup (pv 2) pe_int (fun _ _ => rfl)) pa_nil))) ip_add))
      (pss_one (ps_aug (i := 1) nd rfl (.inl rfl) pe_int ip_add)))))
    (pss_one (ps_ret (pv 1))))), ?_⟩
      refine ⟨_, rfl, a, rfl, ⟨_, hs⟩, for_tup (K := K) (a := a) (xs := xs) (fun j σ H2 => ∃ y, σ = [some (.ref a), some (.int (exP (b.take j))), y] ∧ H2 = H) ⟨none, by rw [List.take_zero, exP_nil]; rfl, rfl⟩ ?_ ?_ ?_⟩
      · rintro j σ H2 _ ⟨y, _, rfl⟩
        exact hs
      · rintro j x σ H2 hj ⟨y, rfl, rfl⟩
        obtain ⟨i, hi, hx⟩ := hI.get hj
        have hm := List.mem_of_getElem? hi
        rcases hx.inv with ⟨c, n, rfl, ht, rfl⟩ | ⟨c, n, rfl, ht, rfl⟩ | ⟨c, n, y, bb, rfl, ht, hy, rfl⟩
        · refine ⟨_, rfl, c, _, 0, _, rfl, rfl, ht, rfl, rfl, _, rfl, iteN v_sr ?_⟩
          refine ⟨_, rfl, _, _, rfl, rfl, some (.ref c), ?_, rfl⟩
          rw [exP_snoc hi, exI]
          rfl
        · refine ⟨_, rfl, c, _, 0, _, rfl, rfl, ht, rfl, rfl, _, rfl, iteN v_tr ?_⟩
          refine ⟨_, rfl, _, _, rfl, rfl, some (.ref c), ?_, rfl⟩
          rw [exP_snoc hi, exI]
          rfl
        · refine ⟨_, rfl, c, _, 0, _, rfl, rfl, ht, rfl, rfl, _, rfl, iteS rfl ?_⟩
          have hdi := dpP_mem hm
          rw [dpI] at hdi
          have wi := WP_mem hw hm
          rw [WI] at wi
          refine ⟨_, rfl, _, rfl, c, _, 1, _, rfl, rfl, ht, rfl, _, rfl, c, _, 2, _, rfl, rfl, ht, rfl, y, bb, rfl, hy, by omega, by omega, wi.2.2, wi.2.1, n, exP bb, rfl, rfl, wide_mul (a := 101) (b := 331) (Nat.lt_of_le_of_lt wi.1 (by decide +kernel)) (ex_lt (k := k) (by omega) (by omega) wi.2.2 wi.2.1) (by decide) (by decide) (by decide), _, _, rfl, rfl, some (.ref c), ?_, rfl⟩
          rw [exP_snoc hi, exI]
          rfl
      · rintro σ H2 ⟨y, rfl, rfl⟩
        rw [hI.len, List.take_length]
        exact ⟨_, rfl, q⟩
theorem sc_unrolled : FnScope ["program", "found", "instruction", "inner"] ["program"] (defScope s_unrolled) := ⟨rfl, rfl, rfl, by decide +kernel, rfl, by decide +kernel, by decide +kernel⟩
theorem FIs.app {H : Hp} : ∀ {xs ys : List V} {b c : List Ins}, FIs K H xs b → FIs K H ys c → FIs K H (xs ++ ys) (b ++ c)
  | _, _, _, _, .nil, h => h
  | _, _, _, _, .cons r q, h => .cons r (FIs.app q h)
theorem FIs.repl {H : Hp} {xs : List V} {b : List Ins} (h : FIs K H xs b) : ∀ n : Nat, FIs K H (List.replicate n xs).flatten (List.replicate n b).flatten
  | 0 => .nil
  | n + 1 => by
    rw [List.replicate_succ, List.replicate_succ, List.flatten_cons, List.flatten_cons]
    exact FIs.app h (FIs.repl h n)
theorem flat_len {α : Type} (xs : List α) : ∀ n : Nat, (List.replicate n xs).flatten.length = xs.length * n
  | 0 => rfl
  | n + 1 => by
    rw [List.replicate_succ, List.flatten_cons, List.length_append, flat_len xs n, Nat.mul_succ, Nat.add_comm]
theorem ok_unrolled (k : Nat) (C_unrolled : Cal P w K mg base (k + 0) "unrolled" (sp_unrolled K k)) {f : Addr} {fd : FuncData} (F : Fun K "unrolled" "unrolled" s_unrolled f fd) (B : Blt mg) : FnOk P w K mg base CX0 (k + 0 + 1) f fd ["program"] (sp_unrolled K (k + 1)) := by
  refine F.ok sc_unrolled (fun vs H Q E h => ?_) (fun cdv A outer s H vs Q E hr h => ?_)
  · obtain ⟨v, b, rfl, _⟩ := h
    rfl
  · obtain ⟨v, b, rfl, hv, hd, hnp, hex, q⟩ := h
    have nd := sc_unrolled.nd
    obtain ⟨a, xs, rfl, hsq, hI⟩ := hv.inv
    rcases hsq with hs | hs
    · refine ⟨_, (pss_cons (ps_set (i := 1) nd rfl (.inl rfl) (pe_lst pa_nil))
    (pss_cons (ps_for PassesOwn.never rfl (pi_list (pv 0)) (pg_name (i := 2) nd rfl (.inl rfl))
      (pss_one (ps_if (pt_cmpR op_ne (pe_ix ix_tup (pv 2) pe_int (fun _ _ => rfl)) pe_str (nomark _))
      (pss_one (ps_expr (pe_bm PySem.F.plainAttrs_list PySem.F.slot_list_append PySem.F.type_list_append mt_append (pv 1) (pa_cons (pv 2) pa_nil))))
      (pss_one (ps_if (pt_cmpR op_gt (pe_ix ix_tup (pv 2) pe_int (fun _ _ => rfl)) pe_int (nomark _))
      (pss_cons (ps_set (i := 3) nd rfl (.inl rfl) (pe_c C_unrolled hr (by omega) (by rfl) (pa_cons (pe_ix ix_tup (pv 2) pe_int (fun _ _ => rfl)) pa_nil)))
    (pss_one (ps_if (pt_truth (pv 3) (by intro _; rfl))
      (pss_one (ps_expr (pe_bm PySem.F.plainAttrs_list PySem.F.slot_list_extend PySem.F.type_list_extend mt_extend (pv 1) (pa_cons (pe_op op_rep (pv 3) (pe_ix ix_tup (pv 2) pe_int (fun _ _ => rfl))) pa_nil))))
      pss_nil)))
      pss_nil)))))
    (pss_one (ps_ret (pv 1))))), ?_⟩
      refine ⟨Nat.zero_le _, fun D nD => ?_⟩
      have s1 := same_new nD (o := HO.lst [])
      refine ⟨_, rfl, a, rfl, ⟨_, same_l s1 hs⟩, for_list (K := K) (a := a) (xs := xs) (fun j σ H2 => ∃ (zs : List V) (y z : Option V), σ = [some (.ref a), some (.ref D), y, z] ∧ Same H H2 ∧ H2 D = some (.lst zs) ∧ FIs K H2 zs (unP (b.take j))) ⟨[], none, none, rfl, s1, upd_same, by rw [List.take_zero, show unP [] = [] by unfold unP; rfl]; exact .nil⟩ ?_ ?_ ?_⟩
      · rintro j σ H2 _ ⟨zs, y, z, _, s2, _⟩
        exact same_l s2 hs
      · rintro j x σ H2 hj ⟨zs, y, z, rfl, s2, hD2, hZ⟩
        obtain ⟨i, hi, hx0⟩ := hI.get hj
        have hx := hx0.same s2
        have hm := List.mem_of_getElem? hi
        have hsn := unP_snoc hi
        have hzl : (zs.length : Int) ≤ 10000 := by
          rw [hZ.len, un_len (NP_take j hnp)]
          exact Int.le_trans (exP_take b j hnp) hex
        rcases hx.inv with ⟨e, m, rfl, ht, rfl⟩ | ⟨e, m, rfl, ht, rfl⟩ | ⟨e, m, y', bb, rfl, ht, hy, rfl⟩
        · refine ⟨_, rfl, e, _, 0, _, rfl, rfl, ht, rfl, rfl, _, rfl, iteNN v_sr ?_⟩
          refine ⟨_, rfl, .inl ⟨rfl, _, SqL.of hD2⟩, _, rfl, D, zs, _, rfl, rfl, hD2, sl_lt (by omega), zs ++ [.ref e], _, _, rfl, same_mut s2 nD, upd_same, ?_⟩
          rw [hsn, unI]
          exact FIs.snoc (hZ.tp (tp_lst hD2)) (FI.tp (tp_lst hD2) (.inl ⟨e, m, rfl, ht, rfl⟩))
        · refine ⟨_, rfl, e, _, 0, _, rfl, rfl, ht, rfl, rfl, _, rfl, iteNN v_tr ?_⟩
          refine ⟨_, rfl, .inl ⟨rfl, _, SqL.of hD2⟩, _, rfl, D, zs, _, rfl, rfl, hD2, sl_lt (by omega), zs ++ [.ref e], _, _, rfl, same_mut s2 nD, upd_same, ?_⟩
          rw [hsn, unI]
          exact FIs.snoc (hZ.tp (tp_lst hD2)) (FI.tp (tp_lst hD2) (.inr ⟨e, m, rfl, ht, rfl⟩))
        · have hdi := dpP_mem hm
          rw [dpI] at hdi
          have hni := NP_mem hnp hm
          rw [NI] at hni
          have hei := exP_mem hnp hm
          rw [exI] at hei
          have hbn := exP_nn bb hni.2
          refine ⟨_, rfl, e, _, 0, _, rfl, rfl, ht, rfl, rfl, _, rfl, iteNS rfl ?_⟩
          refine ⟨_, rfl, e, _, 1, _, rfl, rfl, ht, rfl, m, 0, rfl, rfl, _, rfl, ite2 (fun hm0 => ?_) fun hm0 => ?_⟩
          · have hm1 : 0 < m := of_decide_eq_true hm0
            have hb1 : exP bb ≤ m * exP bb := by
              have := Int.mul_le_mul_of_nonneg_right (show (1 : Int) ≤ m by omega) hbn
              rw [Int.one_mul] at this
              exact this
            refine ⟨_, rfl, e, _, 2, _, rfl, rfl, ht, rfl, y', bb, rfl, hy, by omega, hni.2, by omega, fun D2 ys H3 s3 nD2 hD3 hY => ?_⟩
            have hYl : (ys.length : Int) = exP bb := by rw [hY.len, un_len hni.2]
            have hDD := s3 _ _ hD2
            have ht3 := same_t s3 ht
            have hne : D ≠ D2 := ne_of_none hD2 nD2
            cases ys with
            | nil =>
              refine ⟨_, rfl, _, .inl ⟨_, SqL.of hD3, rfl⟩, iteF ?_⟩
              refine ⟨zs, _, _, rfl, s2.trans s3, hDD, ?_⟩
              have e0 : unP bb = [] := List.length_eq_zero_iff.mp (hY.len).symm
              rw [hsn, unI, e0, show (List.replicate m.toNat ([] : List Ins)).flatten = [] by simp, List.append_nil]
              exact hZ.tp (Same.tp s3)
            | cons y0 ys =>
              refine ⟨_, rfl, _, .inl ⟨_, SqL.of hD3, rfl⟩, iteT ?_⟩
              have hmx : m ≤ 10000 := by
                have h1 : (1 : Int) ≤ exP bb := by rw [← hYl, List.length_cons]; omega
                have := Int.mul_le_mul_of_nonneg_left h1 (show (0 : Int) ≤ m by omega)
                rw [Int.mul_one] at this
                omega
              have hsz : (y0 :: ys).length * m.toNat ≤ 10000 := by
                have h1 : (((y0 :: ys).length * m.toNat : Nat) : Int) = exP bb * m := by
                  rw [Int.natCast_mul, hYl, Int.toNat_of_nonneg (by omega)]
                rw [Int.mul_comm] at h1
                omega
              refine ⟨_, rfl, .inl ⟨rfl, _, SqL.of hDD⟩, _, rfl, _, rfl, e, _, 1, _, rfl, rfl, ht3, rfl, D2, m, _, rfl, rfl, hD3, by omega, by omega, sl_of (Nat.le_trans hsz (by decide)), fun r nr => ?_⟩
              have s4 := same_new nr (o := HO.lst (List.replicate m.toNat (y0 :: ys)).flatten)
              have hD4 := s4 _ _ hDD
              refine ⟨D, r, zs, _, rfl, rfl, hD4, upd_same, sl_of (by rw [flat_len]; omega), ?_⟩
              have t5 : Tp (upd H3 r (HO.lst (List.replicate m.toNat (y0 :: ys)).flatten)) (upd (upd H3 r (HO.lst (List.replicate m.toNat (y0 :: ys)).flatten)) D (.lst (zs ++ (List.replicate m.toNat (y0 :: ys)).flatten))) := tp_lst hD4
              refine ⟨_, _, _, rfl, same_mut (s2.trans (s3.trans s4)) nD, upd_same, ?_⟩
              rw [hsn, unI]
              exact FIs.app (hZ.tp ((Same.tp (s3.trans s4)).trans t5)) ((hY.repl m.toNat).tp ((Same.tp s4).trans t5))
          · have hm1 : m = 0 := by
              have : ¬ (0 < m) := fun z => hm0 (decide_eq_true z)
              omega
            refine ⟨zs, _, _, rfl, s2, hD2, ?_⟩
            rw [hsn, unI, hm1]
            show FIs K H2 zs (unP (b.take j) ++ [])
            rw [List.append_nil]
            exact hZ
      · rintro σ H2 ⟨zs, y, z, rfl, s2, hD2, hZ⟩
        rw [hI.len, List.take_length] at hZ
        exact ⟨_, rfl, q D zs H2 s2 nD hD2 hZ⟩
    · refine ⟨_, (pss_cons (ps_set (i := 1) nd rfl (.inl rfl) (pe_lst pa_nil))
    (pss_cons (ps_for PassesOwn.never rfl (pi_tup (pv 0)) (pg_name (i := 2) nd rfl (.inl rfl))
      (pss_one (ps_if (pt_cmpR op_ne (pe_ix ix_tup (pv 2) pe_int (fun _ _ => rfl)) pe_str (nomark _))
      (pss_one (ps_expr (pe_bm PySem.F.plainAttrs_list PySem.F.slot_list_append PySem.F.type_list_append mt_append (pv 1) (pa_cons (pv 2) pa_nil))))
      (pss_one (ps_if (pt_cmpR op_gt (pe_ix ix_tup (pv 2) pe_int (fun _ _ => rfl)) pe_int (nomark _))
      (pss_cons (ps_set (i := 3) nd rfl (.inl rfl) (pe_c C_unrolled hr (by omega) (by rfl) (pa_cons (pe_ix ix_tup (pv 2) pe_int (fun _ _ => rfl)) pa_nil)))
    (pss_one (ps_if (pt_truth (pv 3) (by intro _; rfl))
      (pss_one (ps_expr (pe_bm PySem.F.plainAttrs_list PySem.F.slot_list_extend PySem.F.type_list_extend mt_extend (pv 1) (pa_cons (pe_op op_rep (pv 3) (pe_ix ix_tup (pv 2) pe_int (fun _ _ => rfl))) pa_nil))))
      pss_nil)))
      pss_nil)))))
    (pss_one (ps_ret (pv 1))))), ?_⟩
      refine ⟨Nat.zero_le _, fun D nD => ?_⟩
      have s1 := same_new nD (o := HO.lst [])
      refine ⟨_, rfl, a, rfl, ⟨_, same_t s1 hs⟩, for_tup (K := K) (a := a) (xs := xs) (fun j σ H2 => ∃ (zs : List V) (y z : Option V), σ = [some (.ref a), some (.ref D), y, z] ∧ Same H H2 ∧ H2 D = some (.lst zs) ∧ FIs K H2 zs (unP (b.take j))) ⟨[], none, none, rfl, s1, upd_same, by rw [List.take_zero, show unP [] = [] by unfold unP; rfl]; exact .nil⟩ ?_ ?_ ?_⟩
      · rintro j σ H2 _ ⟨zs, y, z, _, s2, _⟩
        exact same_t s2 hs
      · rintro j x σ H2 hj ⟨zs, y, z, rfl, s2, hD2, hZ⟩
        obtain ⟨i, hi, hx0⟩ := hI.get hj
        have hx := hx0.same s2
        have hm := List.mem_of_getElem? hi
        have hsn := unP_snoc hi
        have hzl : (zs.length : Int) ≤ 10000 := by
          rw [hZ.len, un_len (NP_take j hnp)]
          exact Int.le_trans (exP_take b j hnp) hex
        rcases hx.inv with ⟨e, m, rfl, ht, rfl⟩ | ⟨e, m, rfl, ht, rfl⟩ | ⟨e, m, y', bb, rfl, ht, hy, rfl⟩
        · refine ⟨_, rfl, e, _, 0, _, rfl, rfl, ht, rfl, rfl, _, rfl, iteNN v_sr ?_⟩
          refine ⟨_, rfl, .inl ⟨rfl, _, SqL.of hD2⟩, _, rfl, D, zs, _, rfl, rfl, hD2, sl_lt (by omega), zs ++ [.ref e], _, _, rfl, same_mut s2 nD, upd_same, ?_⟩
          rw [hsn, unI]
          exact FIs.snoc (hZ.tp (tp_lst hD2)) (FI.tp (tp_lst hD2) (.inl ⟨e, m, rfl, ht, rfl⟩))
        · refine ⟨_, rfl, e, _, 0, _, rfl, rfl, ht, rfl, rfl, _, rfl, iteNN v_tr ?_⟩
          refine ⟨_, rfl, .inl ⟨rfl, _, SqL.of hD2⟩, _, rfl, D, zs, _, rfl, rfl, hD2, sl_lt (by omega), zs ++ [.ref e], _, _, rfl, same_mut s2 nD, upd_same, ?_⟩
          rw [hsn, unI]
          exact FIs.snoc (hZ.tp (tp_lst hD2)) (FI.tp (tp_lst hD2) (.inr ⟨e, m, rfl, ht, rfl⟩))
        · have hdi := dpP_mem hm
          rw [dpI] at hdi
          have hni := NP_mem hnp hm
          rw [NI] at hni
          have hei := exP_mem hnp hm
          rw [exI] at hei
          have hbn := exP_nn bb hni.2
          refine ⟨_, rfl, e, _, 0, _, rfl, rfl, ht, rfl, rfl, _, rfl, iteNS rfl ?_⟩
          refine ⟨_, rfl, e, _, 1, _, rfl, rfl, ht, rfl, m, 0, rfl, rfl, _, rfl, ite2 (fun hm0 => ?_) fun hm0 => ?_⟩
          · have hm1 : 0 < m := of_decide_eq_true hm0
            have hb1 : exP bb ≤ m * exP bb := by
              have := Int.mul_le_mul_of_nonneg_right (show (1 : Int) ≤ m by omega) hbn
              rw [Int.one_mul] at this
              exact this
            refine ⟨_, rfl, e, _, 2, _, rfl, rfl, ht, rfl, y', bb, rfl, hy, by omega, hni.2, by omega, fun D2 ys H3 s3 nD2 hD3 hY => ?_⟩
            have hYl : (ys.length : Int) = exP bb := by rw [hY.len, un_len hni.2]
            have hDD := s3 _ _ hD2
            have ht3 := same_t s3 ht
            have hne : D ≠ D2 := ne_of_none hD2 nD2
            cases ys with
            | nil =>
              refine ⟨_, rfl, _, .inl ⟨_, SqL.of hD3, rfl⟩, iteF ?_⟩
              refine ⟨zs, _, _, rfl, s2.trans s3, hDD, ?_⟩
              have e0 : unP bb = [] := List.length_eq_zero_iff.mp (hY.len).symm
              rw [hsn, unI, e0, show (List.replicate m.toNat ([] : List Ins)).flatten = [] by simp, List.append_nil]
              exact hZ.tp (Same.tp s3)
            | cons y0 ys =>
              refine ⟨_, rfl, _, .inl ⟨_, SqL.of hD3, rfl⟩, iteT ?_⟩
              have hmx : m ≤ 10000 := by
                have h1 : (1 : Int) ≤ exP bb := by rw [← hYl, List.length_cons]; omega
                have := Int.mul_le_mul_of_nonneg_left h1 (show (0 : Int) ≤ m by omega)
                rw [Int.mul_one] at this
                omega
              have hsz : (y0 :: ys).length * m.toNat ≤ 10000 := by
                have h1 : (((y0 :: ys).length * m.toNat : Nat) : Int) = exP bb * m := by
                  rw [Int.natCast_mul, hYl, Int.toNat_of_nonneg (by omega)]
                rw [Int.mul_comm] at h1
                omega
              refine ⟨_, rfl, .inl ⟨rfl, _, SqL.of hDD⟩, _, rfl, _, rfl, e, _, 1, _, rfl, rfl, ht3, rfl, D2, m, _, rfl, rfl, hD3, by omega, by omega, sl_of (Nat.le_trans hsz (by decide)), fun r nr => ?_⟩
              have s4 := same_new nr (o := HO.lst (List.replicate m.toNat (y0 :: ys)).flatten)
              have hD4 := s4 _ _ hDD
              refine ⟨D, r, zs, _, rfl, rfl, hD4, upd_same, sl_of (by rw [flat_len]; omega), ?_⟩
              have t5 : Tp (upd H3 r (HO.lst (List.replicate m.toNat (y0 :: ys)).flatten)) (upd (upd H3 r (HO.lst (List.replicate m.toNat (y0 :: ys)).flatten)) D (.lst (zs ++ (List.replicate m.toNat (y0 :: ys)).flatten))) := tp_lst hD4
              refine ⟨_, _, _, rfl, same_mut (s2.trans (s3.trans s4)) nD, upd_same, ?_⟩
              rw [hsn, unI]
              exact FIs.app (hZ.tp ((Same.tp (s3.trans s4)).trans t5)) ((hY.repl m.toNat).tp ((Same.tp s4).trans t5))
          · have hm1 : m = 0 := by
              have : ¬ (0 < m) := fun z => hm0 (decide_eq_true z)
              omega
            refine ⟨zs, _, _, rfl, s2, hD2, ?_⟩
            rw [hsn, unI, hm1]
            show FIs K H2 zs (unP (b.take j) ++ [])
            rw [List.append_nil]
            exact hZ
      · rintro σ H2 ⟨zs, y, z, rfl, s2, hD2, hZ⟩
        rw [hI.len, List.take_length] at hZ
        exact ⟨_, rfl, q D zs H2 s2 nD hD2 hZ⟩
theorem sc_effect_of : FnScope ["prime", "program", "sums", "place", "word", "count"] ["prime", "program"] (defScope s_effect_of) := ⟨rfl, rfl, rfl, by decide +kernel, rfl, by decide +kernel, by decide +kernel⟩
theorem ok_effect_of {f : Addr} {fd : FuncData} (F : Fun K "effect_of" "effect_of" s_effect_of f fd) (B : Blt mg) {tk : Tok} (G_LONGEST_RUN : mg "LONGEST_RUN" = some (.int 10000 tk)) (C_from_sums : Cal P w K mg base 1 "from_sums" (sp_from_sums K)) (C_executed : Cal P w K mg base (3 + 0) "executed" (sp_executed K 3)) (C_unrolled : Cal P w K mg base (3 + 0) "unrolled" (sp_unrolled K 3)) : FnOk P w K mg base CX0 4 f fd ["prime", "program"] (sp_effect_ofE K) := by
  refine F.ok sc_effect_of (fun vs H Q E h => ?_) (fun cdv A outer s H vs Q E hr h => ?_)
  · obtain ⟨p, v, b, rfl, _⟩ := h
    rfl
  · obtain ⟨p, v, b, rfl, hp, hv, hd, hw, hl, hnp, hex, q⟩ := h
    have hu := hu_of hr
    have nd := sc_effect_of.nd
    refine ⟨_, (pss_cons (ps_if (pt_cmpR op_gt (pe_c C_executed hr (by decide) (by rfl) (pa_cons (pv 1) pa_nil)) (pe_glob (v := .int 10000) rfl G_LONGEST_RUN ⟨_, rfl⟩) (nomark _))
      (pss_one ps_never)
      pss_nil)
    (pss_cons (ps_set (i := 2) nd rfl (.inl rfl) pe_dnewK)
    (pss_cons (ps_set (i := 3) nd rfl (.inl rfl) pe_int)
    (pss_cons (ps_for PassesOwn.never rfl (pi_list (pe_c C_unrolled hr (by decide) (by rfl) (pa_cons (pv 1) pa_nil))) (pg_tup rfl (pgs_cons (pg_name (i := 4) nd rfl (.inl rfl)) (pgs_cons (pg_name (i := 5) nd rfl (.inl rfl)) pgs_nil)))
      (pss_one (ps_if (pt_cmpR op_eq (pv 4) pe_str (nomark _))
      (pss_one (ps_aug (i := 3) nd rfl (.inl rfl) (pv 5) ip_add))
      (pss_one (ps_dput hu (pv 2) (pv 3) (pe_op op_add (pe_dget2 hu (pv 2) (pv 3) pe_int ⟨rfl, rfl, rfl, rfl⟩) (pv 5)) rfl)))))
    (pss_one (ps_ret (pe_tup (pa_cons (pe_c C_from_sums hr (by decide) (by rfl) (pa_cons (pv 0) (pa_cons (pv 2) pa_nil))) (pa_cons (pv 3) pa_nil))))))))), ?_⟩
    refine ⟨_, rfl, v, b, rfl, hv, hd, by decide, hw, hl, exP b, 10000, rfl, rfl, _, rfl, iteN (by omega) ?_⟩
    intro d nd0
    have s1 : Same H (upd H d (.dK [])) := same_new nd0
    refine ⟨_, rfl, v, b, rfl, hv.same s1, hd, hnp, hex, fun D ys H2 s2 nD hD2 hY => ?_⟩
    have hYl : (ys.length : Int) ≤ 10000 := by rw [hY.len, un_len hnp]; exact hex
    have hd2 := s2 _ _ (show upd H d (.dK (kvOf [])) d = _ from upd_same)
    have s12 := s1.trans s2
    have ndH : ∀ {H3 : Hp}, Same H2 H3 → H d = none := fun _ => nd0
    refine ⟨D, rfl, ⟨_, SqL.of hD2⟩, for_list (K := K) (a := D) (xs := ys) (fun j σ H3 => ∃ (m : Pol) (y z : Option V), σ = [some (.int p), some v, some (.ref d), some (.int (shP ((unP b).take j))), y, z] ∧ Same H H3 ∧ H3 D = some (.lst ys) ∧ FIs K H3 ys (unP b) ∧ H3 d = some (.dK (kvOf m)) ∧ (m.map (·.1)).Nodup ∧ m.length ≤ j ∧ ∀ x, cf m x = seP ((unP b).take j) x) ?_ ?_ ?_ ?_⟩
    · exact ⟨[], none, none, by rw [List.take_zero, shP_nil]; rfl, s12, hD2, hY, hd2, List.nodup_nil, Nat.le_refl _, fun x => by rw [List.take_zero, seP_nil]; rfl⟩
    · rintro j σ H3 _ ⟨m, y, z, _, _, hD3, _⟩
      exact SqL.of hD3
    · rintro j x σ H3 hj ⟨m, y, z, rfl, s3, hD3, hY3, hd3, hnd, hml, hcf⟩
      obtain ⟨i, hi, hx⟩ : ∃ i, (unP b)[j]? = some i ∧ FI K H3 x i := by
        have : ∀ {ys : List V} {u : List Ins} {j : Nat} {x : V}, FIs K H3 ys u → ys[j]? = some x → ∃ i, u[j]? = some i ∧ FI K H3 x i := by
          intro ys u j x h
          induction h generalizing j with
          | nil => intro e; simp at e
          | cons r q ih =>
            cases j with
            | zero => intro e; simp at e; subst e; exact ⟨_, rfl, r⟩
            | succ j => intro e; obtain ⟨i, a1, a2⟩ := ih (j := j) (by simpa using e); exact ⟨i, by simpa using a1, a2⟩
        exact this hY3 hj
      have hjl : j < ys.length := (List.getElem?_eq_some_iff.mp hj).1
      have nDd : D ≠ d := ne_of hD3 hd3 (by intro z; cases z)
      rcases hx with ⟨e, c, rfl, ht, rfl⟩ | ⟨e, c, rfl, ht, rfl⟩
      · refine ⟨e, _, rfl, ht, rfl, _, _, rfl, _, _, rfl, rfl, ?_⟩
        refine ⟨_, rfl, rfl, _, rfl, iteS rfl ?_⟩
        refine ⟨_, rfl, _, rfl, _, _, rfl, rfl, m, some (.str "step"), some (.int c), ?_, s3, hD3, hY3, hd3, hnd, by omega, fun x => ?_⟩
        · rw [shP_snoc hi, shI]
          rfl
        · rw [seP_snoc hi, seI, Int.add_zero]
          exact hcf x
      · refine ⟨e, _, rfl, ht, rfl, _, _, rfl, _, _, rfl, rfl, ?_⟩
        refine ⟨_, rfl, rfl, _, rfl, iteN v_ts ?_⟩
        have pl := shP ((unP b).take j)
        refine ⟨_, rfl, d, rfl, .inl ⟨_, .inl hd3⟩, _, rfl, _, dget_any _ hd3, _, rfl, cf m _, c, kv_getD m _ hnd, rfl, _, rfl, _, rfl, d, _, rfl, dput_int _ _ hd3 hnd (by omega), ?_⟩
        refine ⟨put m (shP ((unP b).take j)) (cf m (shP ((unP b).take j)) + c), some (.str "turn"), some (.int c), ?_, same_mut s3 nd0, by rw [upd_ne nDd]; exact hD3, hY3.tp (tp_dK hd3), upd_same, put_nodup _ _ _ hnd, ?_, fun x => ?_⟩
        · rw [shP_snoc hi, shI, Int.add_zero]
          rfl
        · have := put_len m (shP ((unP b).take j)) (cf m (shP ((unP b).take j)) + c)
          omega
        · rw [put_cf _ _ _ _ hnd, seP_snoc hi, seI]
          by_cases hx : x = shP ((unP b).take j)
          · rw [if_pos hx, if_pos (by omega), hx, hcf]
          · rw [if_neg hx, if_neg (by omega), Int.add_zero, hcf]
    · rintro σ H3 ⟨m, y, z, rfl, s3, hD3, hY3, hd3, hnd, hml, hcf⟩
      rw [hY3.len, List.take_length] at *
      obtain ⟨u1, u2, u3⟩ := unP_ok b hnp
      refine ⟨_, rfl, _, rfl, p, d, m, rfl, hp, hd3, hnd, by have := hY3.len; omega, fun u H4 g s4 hT hN => ?_⟩
      refine ⟨_, rfl, sl_of (show 2 ≤ 1000000 by decide), fun t nt => ?_⟩
      rw [u1]
      refine q _ _ g (s3.trans (s4.trans (same_new nt))) ⟨t, u, rfl, SqT.of upd_same, hT.tp (tp_new nt)⟩ (hN.to fun e => ?_) ?_
      · rw [hcf, u3]
      · have := hN.len (L := m.map (·.1)) fun e he => by rw [cf_out he]; rfl
        rw [List.length_map] at this
        have := hY3.len
        have := un_len hnp
        omega
theorem sc_repeated : FnScope ["term", "count", "stride", "place", "coefficient", "rounds"] ["term", "count", "stride"] (defScope s_repeated) := ⟨rfl, rfl, rfl, by decide +kernel, rfl, by decide +kernel, by decide +kernel⟩
theorem ok_repeated {f : Addr} {fd : FuncData} (F : Fun K "repeated" "repeated" s_repeated f fd) (B : Blt mg) : FnOk P w K mg base CX0 1 f fd ["term", "count", "stride"] (sp_repeatedS K) := by
  refine F.ok sc_repeated (fun vs H Q E h => ?_) (fun cdv A outer s H vs Q E hr h => ?_)
  · obtain ⟨v, t, n, s, k, T, pl, rfl, _⟩ := h
    rfl
  · obtain ⟨v, t, n, s, k, T, pl, rfl, ⟨a, x, rfl, hs, hx⟩, ok, hk, hn, hn2, hsT, hsb, q⟩ := h
    have nd := sc_repeated.nd
    have hT0 : 0 ≤ T := by omega
    have hTn : T ≤ n * T := by
      have := Int.mul_le_mul_of_nonneg_right hn hT0
      rw [Int.one_mul] at this
      exact this
    have hnb : n.natAbs ≤ 2 ^ 100 := by omega
    have hcn : (t.co * n).natAbs ≤ 2 ^ (100 * (k + 1)) := by
      rw [Int.natAbs_mul, Nat.mul_add, Nat.pow_add]
      exact Nat.mul_le_mul ok.co hnb
    have hco : t.co.natAbs < 2 ^ 301 := Nat.lt_of_le_of_lt ok.co (Nat.lt_of_le_of_lt (pow_le2 (show 100 * k ≤ 300 by omega)) (by decide +kernel))
    have hnl : n.natAbs < 2 ^ 101 := Nat.lt_of_le_of_lt hnb (by decide +kernel)
    have same : ∀ (u : Addr) , H u = none → Repd t n s ⟨t.pl, t.co * n, t.rs⟩ → Q (.ref u) (upd H u (.tup [.int t.pl, .int (t.co * n), x])) := fun u nu hR =>
      q (.ref u) _ ⟨t.pl, t.co * n, t.rs⟩ (same_new nu) ⟨u, x, rfl, SqT.of upd_same, hx.tp (tp_new nu)⟩ hR ⟨Int.le_trans ok.at_ hTn, hcn, Nat.le_trans ok.len (by omega), ok.rs⟩ (fun _ => Nat.le_add_right _ _)
    refine ⟨_, (pss_cons (ps_asg (pv 0) (pg_tup rfl (pgs_cons (pg_name (i := 3) nd rfl (.inl rfl)) (pgs_cons (pg_name (i := 4) nd rfl (.inl rfl)) (pgs_cons (pg_name (i := 5) nd rfl (.inl rfl)) pgs_nil)))))
    (pss_cons (ps_if (PW.pt (pw_or (pt_cmpR op_eq (pv 2) pe_int (nomark _)) (pw_or1 (pt_cmpR op_eq (pv 1) pe_int (nomark _)))))
      (pss_one (ps_ret (pe_tup (pa_cons (pv 3) (pa_cons (pe_op op_mulW (pv 4) (pv 1)) (pa_cons (pv 5) pa_nil))))))
      pss_nil)
    (pss_cons (ps_if (pt_cmpR op_lt (pv 2) pe_int (nomark _))
      (pss_one (ps_aug (i := 3) nd rfl (.inl rfl) (pe_op op_mulW (pe_op op_sub (pv 1) pe_int) (pv 2)) ip_add))
      pss_nil)
    (pss_one (ps_ret (pe_tup (pa_cons (pv 3) (pa_cons (pv 4) (pa_cons (pe_callTy call_tuple_of (by rfl) B.tuple (by decide +kernel) (pa_cons (pe_callB cr_sortTP (by rfl) B.sorted (by decide +kernel) (pa_cons (pe_op op_catA (pv 5) (pe_tup (pa_cons (pe_tup (pa_cons (pv 1) (pa_cons (pe_callB call_abs (by rfl) B.abs (by decide +kernel) (pa_cons (pv 2) pa_nil)) pa_nil))) pa_nil))) pa_nil)) pa_nil)) pa_nil))))))))), ?_⟩
    refine ⟨_, rfl, a, _, rfl, hs, rfl, _, _, rfl, _, _, rfl, _, _, rfl, rfl, ?_⟩
    refine ⟨_, rfl, rfl, _, rfl, ?_⟩
    by_cases h0 : s = 0
    · refine iteS (by rw [h0]) (iteT ?_)
      refine ⟨_, rfl, _, rfl, _, rfl, t.co, n, rfl, rfl, wide_mul hco hnl (by decide) (by decide) (by decide), _, rfl, sl_of (show 3 ≤ 1000000 by decide), fun u nu => same u nu ?_⟩
      rw [h0]
      exact repd_zero (by omega)
    refine iteN (fun z => h0 (by injection z)) ?_
    refine ⟨_, rfl, rfl, _, rfl, ?_⟩
    by_cases h1 : n = 1
    · refine iteS (by rw [h1]) ?_
      refine ⟨_, rfl, _, rfl, _, rfl, t.co, n, rfl, rfl, wide_mul hco hnl (by decide) (by decide) (by decide), _, rfl, sl_of (show 3 ≤ 1000000 by decide), fun u nu => same u nu ?_⟩
      rw [h1]
      exact repd_one
    refine iteN (fun z => h1 (by injection z)) ?_
    obtain ⟨b, xs, rfl, hb, hP⟩ := id hx
    have hxl := hP.len
    have hrl := ok.len
    refine ⟨_, rfl, s, 0, rfl, rfl, _, rfl, ?_⟩
    by_cases h2 : s < 0
    · refine iteS h2 ?_
      refine ⟨_, rfl, _, rfl, n, 1, rfl, rfl, _, rfl, n - 1, s, rfl, rfl, wide_mul (a := 101) (b := 332) (by omega) (Nat.lt_of_le_of_lt hsb (by decide +kernel)) (by decide) (by decide) (by decide), _, _, rfl, rfl, ?_⟩
      refine ⟨_, rfl, _, rfl, _, rfl, _, rfl, _, rfl, s, rfl, ?_⟩
      rw [show (if s < 0 then -s else s) = -s by exact if_pos h2]
      refine ⟨sl_of (show 2 ≤ 1000000 by decide), fun p1 n1 => ?_⟩
      have z1 := same_new n1 (o := HO.tup [V.int n, V.int (-s)])
      refine ⟨sl_of (show 1 ≤ 1000000 by decide), fun p2 n2 => ?_⟩
      have z2 := same_new n2 (o := HO.tup [V.ref p1])
      have S2 := z1.trans z2
      have ip : IsPr K (upd (upd H p1 (HO.tup [V.int n, V.int (-s)])) p2 (HO.tup [V.ref p1])) (V.ref p1) (n, -s) := ⟨p1, rfl, same_t z2 (SqT.of upd_same)⟩
      have fin : ∀ (H5 : Hp) (c : Addr) (zs : List V), Same H H5 → SqT K H5 c zs → Prs K H5 zs (t.rs ++ [(n, -s)]) → ∃ a' xs', [V.ref c] = [V.ref a'] ∧ SqT K H5 a' xs' ∧ (∀ x ∈ xs', ∃ t i j, x = V.ref t ∧ SqT K H5 t [.int i, .int j]) ∧ ∀ ys p, ys.Perm xs' → H5 p = none → ∃ p' ys', [V.ref p] = [V.ref p'] ∧ ((SqL K (upd H5 p (.lst ys)) p' ys' ∧ ∀ l, (upd H5 p (.lst ys)) l = none → (sl3 : 3 ≤ sizeLine) → ∀ u, (upd (upd H5 p (.lst ys)) l (.tup ys')) u = none → Q (.ref u) (upd (upd (upd H5 p (.lst ys)) l (.tup ys')) u (.tup [.int (t.pl + (n - 1) * s), .int t.co, .ref l]))) ∨ False) := fun H5 c zs s5 hc hz => by
        refine ⟨c, zs, rfl, hc, fun y hy => ?_, fun ys p pm np => ⟨p, ys, rfl, .inl ⟨SqL.of upd_same, fun l nl _ u nu => ?_⟩⟩⟩
        · obtain ⟨i, hi⟩ := List.getElem?_of_mem hy
          obtain ⟨tt, _, w', e, hw⟩ := hz.get hi
          exact ⟨w', tt.1, tt.2, e, hw⟩
        · obtain ⟨g, hg, hgp⟩ := prs_perm pm hz
          have w1 := same_new np (o := HO.lst ys)
          have w2 := same_new nl (o := HO.tup ys)
          have w3 := same_new nu (o := HO.tup [V.int (t.pl + (n - 1) * s), V.int t.co, V.ref l])
          have hg3 : TPol K _ (.ref l) g := ⟨l, ys, rfl, same_t w3 (SqT.of (upd_same (o := HO.tup ys))), Prs.tp (Same.tp (w1.trans (w2.trans w3))) hg⟩
          refine q (.ref u) _ ⟨t.pl + (n - 1) * s, t.co, g⟩ (s5.trans (w1.trans (w2.trans w3))) ⟨u, _, rfl, SqT.of upd_same, hg3⟩ (repd_neg (by omega) hgp) ⟨?_, Nat.le_trans ok.co (pow_le2 (by omega)), ?_, fun r hr => ?_⟩ (sct_perm hgp (by omega))
          · have h5 : ((n - 1) * s).natAbs ≤ ((n - 1) * T).natAbs := by
              rw [Int.natAbs_mul, Int.natAbs_mul]
              exact Nat.mul_le_mul_left _ (by omega)
            have h6 : 0 ≤ (n - 1) * T := Int.mul_nonneg (by omega) hT0
            have h7 := ok.at_
            have h8 : n * T = (n - 1) * T + T := by rw [Int.sub_mul, Int.one_mul]; omega
            show ((t.pl + (n - 1) * s - pl).natAbs : Int) ≤ n * T
            omega
          · show g.length + 1 ≤ k + 1
            have := hgp.length_eq
            rw [List.length_append] at this
            have : [(n, -s)].length = 1 := rfl
            omega
          · rcases List.mem_append.mp (hgp.mem_iff.mp hr) with z | z
            · exact ok.rs r z
            · have e : r = (n, -s) := by simpa using z
              rw [e]
              exact ⟨hn, hn2, by show 1 ≤ -s; omega, by show -s ≤ 2 ^ 331; omega⟩
      cases xs with
      | nil =>
        have hrs0 : t.rs = [] := List.length_eq_zero_iff.mp hxl.symm
        obtain ⟨a', xs', e, f1, f2, f3⟩ := fin _ p2 [V.ref p1] S2 (SqT.of upd_same) (by rw [hrs0]; exact .cons ip .nil)
        refine ⟨b, p2, [], _, rfl, rfl, same_t S2 hb, SqT.of upd_same, sl_of (show 0 + 1 ≤ 1000000 by decide), (fun _ => ⟨a', xs', e, f1, f2, fun ys p pm np => ?_⟩), (fun z => absurd rfl z), fun z => absurd rfl z⟩
        obtain ⟨p', ys', e2, g⟩ := f3 ys p pm np
        refine ⟨p', ys', e2, .inl ⟨(g.resolve_right id).1, fun l nl => ⟨sl_of (show 3 ≤ 1000000 by decide), fun u nu => (g.resolve_right id).2 l nl (sl_of (show 3 ≤ 1000000 by decide)) u nu⟩⟩⟩
      | cons x0 xs =>
        refine ⟨b, p2, x0 :: xs, _, rfl, rfl, same_t S2 hb, SqT.of upd_same, sl_of (show (x0 :: xs).length + 1 ≤ 1000000 by omega), (fun z => by cases z), (fun _ z => by cases z), fun _ _ p3 n3 => ?_⟩
        have z3 := same_new n3 (o := HO.tup ((x0 :: xs) ++ [V.ref p1]))
        obtain ⟨a', xs', e, f1, f2, f3⟩ := fin _ p3 ((x0 :: xs) ++ [V.ref p1]) (S2.trans z3) (SqT.of upd_same) (Prs.app (Prs.tp (Same.tp (S2.trans z3)) hP) (.cons (ip.tp (Same.tp z3)) .nil))
        refine ⟨a', xs', e, f1, f2, fun ys p pm np => ?_⟩
        obtain ⟨p', ys', e2, g⟩ := f3 ys p pm np
        refine ⟨p', ys', e2, .inl ⟨(g.resolve_right id).1, fun l nl => ⟨sl_of (show 3 ≤ 1000000 by decide), fun u nu => (g.resolve_right id).2 l nl (sl_of (show 3 ≤ 1000000 by decide)) u nu⟩⟩⟩
    · refine iteN h2 ?_
      refine ⟨_, rfl, _, rfl, _, rfl, _, rfl, _, rfl, s, rfl, ?_⟩
      rw [show (if s < 0 then -s else s) = s by exact if_neg h2]
      refine ⟨sl_of (show 2 ≤ 1000000 by decide), fun p1 n1 => ?_⟩
      have z1 := same_new n1 (o := HO.tup [V.int n, V.int (s)])
      refine ⟨sl_of (show 1 ≤ 1000000 by decide), fun p2 n2 => ?_⟩
      have z2 := same_new n2 (o := HO.tup [V.ref p1])
      have S2 := z1.trans z2
      have ip : IsPr K (upd (upd H p1 (HO.tup [V.int n, V.int (s)])) p2 (HO.tup [V.ref p1])) (V.ref p1) (n, s) := ⟨p1, rfl, same_t z2 (SqT.of upd_same)⟩
      have fin : ∀ (H5 : Hp) (c : Addr) (zs : List V), Same H H5 → SqT K H5 c zs → Prs K H5 zs (t.rs ++ [(n, s)]) → ∃ a' xs', [V.ref c] = [V.ref a'] ∧ SqT K H5 a' xs' ∧ (∀ x ∈ xs', ∃ t i j, x = V.ref t ∧ SqT K H5 t [.int i, .int j]) ∧ ∀ ys p, ys.Perm xs' → H5 p = none → ∃ p' ys', [V.ref p] = [V.ref p'] ∧ ((SqL K (upd H5 p (.lst ys)) p' ys' ∧ ∀ l, (upd H5 p (.lst ys)) l = none → (sl3 : 3 ≤ sizeLine) → ∀ u, (upd (upd H5 p (.lst ys)) l (.tup ys')) u = none → Q (.ref u) (upd (upd (upd H5 p (.lst ys)) l (.tup ys')) u (.tup [.int (t.pl), .int t.co, .ref l]))) ∨ False) := fun H5 c zs s5 hc hz => by
        refine ⟨c, zs, rfl, hc, fun y hy => ?_, fun ys p pm np => ⟨p, ys, rfl, .inl ⟨SqL.of upd_same, fun l nl _ u nu => ?_⟩⟩⟩
        · obtain ⟨i, hi⟩ := List.getElem?_of_mem hy
          obtain ⟨tt, _, w', e, hw⟩ := hz.get hi
          exact ⟨w', tt.1, tt.2, e, hw⟩
        · obtain ⟨g, hg, hgp⟩ := prs_perm pm hz
          have w1 := same_new np (o := HO.lst ys)
          have w2 := same_new nl (o := HO.tup ys)
          have w3 := same_new nu (o := HO.tup [V.int (t.pl), V.int t.co, V.ref l])
          have hg3 : TPol K _ (.ref l) g := ⟨l, ys, rfl, same_t w3 (SqT.of (upd_same (o := HO.tup ys))), Prs.tp (Same.tp (w1.trans (w2.trans w3))) hg⟩
          refine q (.ref u) _ ⟨t.pl, t.co, g⟩ (s5.trans (w1.trans (w2.trans w3))) ⟨u, _, rfl, SqT.of upd_same, hg3⟩ (repd_pos hgp) ⟨?_, Nat.le_trans ok.co (pow_le2 (by omega)), ?_, fun r hr => ?_⟩ (sct_perm hgp (by omega))
          · exact Int.le_trans ok.at_ hTn
          · show g.length + 1 ≤ k + 1
            have := hgp.length_eq
            rw [List.length_append] at this
            have : [(n, s)].length = 1 := rfl
            omega
          · rcases List.mem_append.mp (hgp.mem_iff.mp hr) with z | z
            · exact ok.rs r z
            · have e : r = (n, s) := by simpa using z
              rw [e]
              exact ⟨hn, hn2, by show 1 ≤ s; omega, by show s ≤ 2 ^ 331; omega⟩
      cases xs with
      | nil =>
        have hrs0 : t.rs = [] := List.length_eq_zero_iff.mp hxl.symm
        obtain ⟨a', xs', e, f1, f2, f3⟩ := fin _ p2 [V.ref p1] S2 (SqT.of upd_same) (by rw [hrs0]; exact .cons ip .nil)
        refine ⟨b, p2, [], _, rfl, rfl, same_t S2 hb, SqT.of upd_same, sl_of (show 0 + 1 ≤ 1000000 by decide), (fun _ => ⟨a', xs', e, f1, f2, fun ys p pm np => ?_⟩), (fun z => absurd rfl z), fun z => absurd rfl z⟩
        obtain ⟨p', ys', e2, g⟩ := f3 ys p pm np
        refine ⟨p', ys', e2, .inl ⟨(g.resolve_right id).1, fun l nl => ⟨sl_of (show 3 ≤ 1000000 by decide), fun u nu => (g.resolve_right id).2 l nl (sl_of (show 3 ≤ 1000000 by decide)) u nu⟩⟩⟩
      | cons x0 xs =>
        refine ⟨b, p2, x0 :: xs, _, rfl, rfl, same_t S2 hb, SqT.of upd_same, sl_of (show (x0 :: xs).length + 1 ≤ 1000000 by omega), (fun z => by cases z), (fun _ z => by cases z), fun _ _ p3 n3 => ?_⟩
        have z3 := same_new n3 (o := HO.tup ((x0 :: xs) ++ [V.ref p1]))
        obtain ⟨a', xs', e, f1, f2, f3⟩ := fin _ p3 ((x0 :: xs) ++ [V.ref p1]) (S2.trans z3) (SqT.of upd_same) (Prs.app (Prs.tp (Same.tp (S2.trans z3)) hP) (.cons (ip.tp (Same.tp z3)) .nil))
        refine ⟨a', xs', e, f1, f2, fun ys p pm np => ?_⟩
        obtain ⟨p', ys', e2, g⟩ := f3 ys p pm np
        refine ⟨p', ys', e2, .inl ⟨(g.resolve_right id).1, fun l nl => ⟨sl_of (show 3 ≤ 1000000 by decide), fun u nu => (g.resolve_right id).2 l nl (sl_of (show 3 ≤ 1000000 by decide)) u nu⟩⟩⟩
theorem sc_terms_of : FnScope ["program", "place", "terms", "instruction", "word", "count", "stride", "term"] ["program", "place"] (defScope s_terms_of) := ⟨rfl, rfl, rfl, by decide +kernel, rfl, by decide +kernel, by decide +kernel⟩
theorem Paired.imp' {α β : Type} {R S : α → β → Prop} (h : ∀ a b, R a b → S a b) : ∀ {xs : List α} {ys : List β}, Paired R xs ys → Paired S xs ys
  | _, _, .nil => .nil
  | _, _, .cons r q => .cons (h _ _ r) (Paired.imp' h q)
theorem paired_mem {α β : Type} {R : α → β → Prop} : ∀ {xs : List α} {ys : List β} {y : β}, Paired R xs ys → y ∈ ys → ∃ x, x ∈ xs ∧ R x y
  | _, _, _, .nil, h => absurd h List.not_mem_nil
  | _, _, y, .cons r q, h => by
    rcases List.mem_cons.mp h with e | e
    · subst e
      exact ⟨_, List.mem_cons_self, r⟩
    · obtain ⟨x, hx, hr⟩ := paired_mem q e
      exact ⟨x, List.mem_cons_of_mem _ hx, hr⟩
theorem ok_terms_of (k : Nat) (C_terms_of : Cal P w K mg base (k + 3) "terms_of" (sp_terms_ofS K k)) {f : Addr} {fd : FuncData} (F : Fun K "terms_of" "terms_of" s_terms_of f fd) (B : Blt mg) (C_shift_of : Cal P w K mg base (3 + 0) "shift_of" (sp_shift_of K 3)) (C_repeated : Cal P w K mg base 1 "repeated" (sp_repeatedS K)) : FnOk P w K mg base CX0 (k + 3 + 1) f fd ["program", "place"] (sp_terms_ofS K (k + 1)) := by
  refine F.ok sc_terms_of (fun vs H Q E h => ?_) (fun cdv A outer s H vs Q E hr h => ?_)
  · obtain ⟨v, pl, b, rfl, _⟩ := h
    rfl
  · obtain ⟨v, pl, b, rfl, hv, hd, hk, hw, hn, hc, q⟩ := h
    have nd := sc_terms_of.nd
    obtain ⟨a, xs, rfl, hsq, hI⟩ := hv.inv
    have hlb : b.length ≤ 1024 := Nat.le_trans (len_cnP b) hc
    rcases hsq with hs | hs
    · refine ⟨_, (pss_cons (ps_set (i := 2) nd rfl (.inl rfl) (pe_lst pa_nil))
    (pss_cons (ps_for PassesOwn.never rfl (pi_list (pv 0)) (pg_name (i := 3) nd rfl (.inl rfl))
      (pss_cons (ps_asg (pe_tup (pa_cons (pe_ix ix_tup (pv 3) pe_int (fun _ _ => rfl)) (pa_cons (pe_ix ix_tup (pv 3) pe_int (fun _ _ => rfl)) pa_nil))) (pg_tup rfl (pgs_cons (pg_name (i := 4) nd rfl (.inl rfl)) (pgs_cons (pg_name (i := 5) nd rfl (.inr rfl)) pgs_nil))))
    (pss_one (ps_if (pt_cmpR op_eq (pv 4) pe_str (nomark _))
      (pss_one (ps_aug (i := 1) nd rfl (.inl rfl) (pv 5) ip_add))
      (pss_one (ps_if (pt_cmpR op_eq (pv 4) pe_str (nomark _))
      (pss_one (ps_expr (pe_bm PySem.F.plainAttrs_list PySem.F.slot_list_append PySem.F.type_list_append mt_append (pv 2) (pa_cons (pe_tup (pa_cons (pv 1) (pa_cons (pv 5) (pa_cons (pe_tup pa_nil) pa_nil)))) pa_nil))))
      (pss_one (ps_if (pt_cmpR op_gt (pv 5) pe_int (nomark _))
      (pss_cons (ps_set (i := 6) nd rfl (.inr rfl) (pe_c C_shift_of hr (by omega) (by rfl) (pa_cons (pe_ix ix_tup (pv 3) pe_int (fun _ _ => rfl)) pa_nil)))
    (pss_cons (ps_expr (pe_bm PySem.F.plainAttrs_list PySem.F.slot_list_extend PySem.F.type_list_extend mt_extend (pv 2) (pa_cons (pe_lc (own := [("term", 7)]) (by rfl) nd (pi_list (pe_c C_terms_of hr (by omega) (by rfl) (pa_cons (pe_ix ix_tup (pv 3) pe_int (fun _ _ => rfl)) (pa_cons (pv 1) pa_nil)))) (blkOk_by (N := ["program", "place", "terms", "instruction", "word", "count", "stride", "term"]) (sc := defScope s_terms_of) (own := [("term", 7)]) (by decide +kernel)) (fun _ _ _ _ _ => (pg_name (i := 7) nd rfl (.inl rfl))) (fun _ _ _ _ _ => pts_nil) (fun _ _ _ _ _ => (pe_c C_repeated hr (by omega) (by rfl) (pa_cons (pv 7) (pa_cons (pv 5) (pa_cons (pv 6) pa_nil)))))) pa_nil)))
    (pss_one (ps_aug (i := 1) nd rfl (.inl rfl) (pe_op op_mulW (pv 5) (pv 6)) ip_add))))
      pss_nil))))))))
    (pss_one (ps_ret (pv 2))))), ?_⟩
      refine ⟨Nat.zero_le _, fun D nD => ?_⟩
      have s1 := same_new nD (o := HO.lst [])
      refine ⟨_, rfl, a, rfl, ⟨_, same_l s1 hs⟩, for_list (K := K) (a := a) (xs := xs) (fun j σ H2 => ∃ (ys : List V) (ts : List Tm) (y3 y4 y5 y6 y7 : Option V), σ = [some (.ref a), some (.int (pl + shP (b.take j))), some (.ref D), y3, y4, y5, y6, y7] ∧ Same H H2 ∧ H2 D = some (.lst ys) ∧ TVs K H2 ys ts ∧ (∀ x, tvs ts x = seP (b.take j) (x - pl)) ∧ (∀ t ∈ ts, TOk (k + 1) (trP b) pl t) ∧ ts.length ≤ cnP (b.take j) ∧ (∀ t ∈ ts, ∀ y, sct y t.rs ≤ (sdP (b.take j)).count y)) ⟨[], [], none, none, none, none, none, by rw [List.take_zero, shP_nil, Int.add_zero]; rfl, s1, upd_same, .nil, fun x => by rw [List.take_zero, seP_nil]; rfl, fun t h => absurd h List.not_mem_nil, Nat.zero_le _, fun t h => absurd h List.not_mem_nil⟩ ?_ ?_ ?_⟩
      · rintro j σ H2 _ ⟨_, _, _, _, _, _, _, _, s2, _⟩
        exact same_l s2 hs
      · rintro j x σ H2 hj ⟨ys, ts, y3, y4, y5, y6, y7, rfl, s2, hD2, hT, hval, hok, hlen, hsc⟩
        obtain ⟨i, hi, hx0⟩ := hI.get hj
        have hm := List.mem_of_getElem? hi
        have hcj := cnP_take' b j
        have hcs := cnP_snoc' hi
        have hcj1 := cnP_take' b (j + 1)
        have htk := trP_take b (j + 1)
        have hts := trP_snoc hi
        have hsh := shP_tr (b.take j)
        have wi := WP_mem hw hm
        have hyl := hT.len
        rcases hx0.inv with ⟨e, c, rfl, ht0, rfl⟩ | ⟨e, c, rfl, ht0, rfl⟩ | ⟨e, c, y, bb, rfl, ht0, hy0, rfl⟩
        · have ht := same_t s2 ht0
          refine ⟨_, rfl, e, _, 0, _, rfl, rfl, ht, rfl, _, rfl, e, _, 1, _, rfl, rfl, ht, rfl, sl_of (show 2 ≤ 1000000 by decide), fun w0 nw0 => ?_⟩
          have z0 := same_new nw0 (o := HO.tup [V.str "step", V.int c])
          refine ⟨w0, _, rfl, SqT.of upd_same, rfl, _, _, rfl, _, _, rfl, rfl, ?_⟩
          refine ⟨_, rfl, rfl, _, rfl, iteS rfl ?_⟩
          refine ⟨_, rfl, _, rfl, _, _, rfl, rfl, ys, ts, some (.ref e), some (.str "step"), some (.int c), y6, y7, ?_, s2.trans z0, z0 _ _ hD2, hT.tp (Same.tp z0), fun x => ?_, hok, by omega, fun t ht y => Nat.le_trans (hsc t ht y) (st_le hi y)⟩
          · rw [shP_snoc hi, shI, ← Int.add_assoc]
            rfl
          · rw [seP_snoc hi, seI, Int.add_zero]
            exact hval x
        · have ht := same_t s2 ht0
          refine ⟨_, rfl, e, _, 0, _, rfl, rfl, ht, rfl, _, rfl, e, _, 1, _, rfl, rfl, ht, rfl, sl_of (show 2 ≤ 1000000 by decide), fun w0 nw0 => ?_⟩
          have z0 := same_new nw0 (o := HO.tup [V.str "turn", V.int c])
          refine ⟨w0, _, rfl, SqT.of upd_same, rfl, _, _, rfl, _, _, rfl, rfl, ?_⟩
          refine ⟨_, rfl, rfl, _, rfl, iteN v_ts ?_⟩
          refine ⟨_, rfl, rfl, _, rfl, iteS rfl ?_⟩
          have hD3 := z0 _ _ hD2
          refine ⟨_, rfl, .inl ⟨rfl, _, SqL.of hD3⟩, _, rfl, _, rfl, Nat.zero_le _, fun e0 ne0 => ?_⟩
          have z1 := same_new ne0 (o := HO.tup [])
          refine ⟨sl_of (show 3 ≤ 1000000 by decide), fun t0 nt0 => ?_⟩
          have z2 := same_new nt0 (o := HO.tup [V.int (pl + shP (b.take j)), V.int c, V.ref e0])
          have hD4 := (z1.trans z2) _ _ hD3
          rw [WI] at wi
          rw [cnI] at hcs
          refine ⟨D, ys, _, rfl, rfl, hD4, sl_lt (by omega), ?_⟩
          have t3 : Tp (upd (upd (upd H2 w0 (HO.tup [V.str "turn", V.int c])) e0 (HO.tup [])) t0 (HO.tup [V.int (pl + shP (b.take j)), V.int c, V.ref e0])) (upd (upd (upd (upd H2 w0 (HO.tup [V.str "turn", V.int c])) e0 (HO.tup [])) t0 (HO.tup [V.int (pl + shP (b.take j)), V.int c, V.ref e0])) D (.lst (ys ++ [.ref t0]))) := tp_lst hD4
          have hnew : TermV K (upd (upd (upd H2 w0 (HO.tup [V.str "turn", V.int c])) e0 (HO.tup [])) t0 (HO.tup [V.int (pl + shP (b.take j)), V.int c, V.ref e0])) (.ref t0) ⟨pl + shP (b.take j), c, []⟩ := ⟨t0, _, rfl, SqT.of upd_same, e0, [], rfl, same_t z2 (SqT.of upd_same), .nil⟩
          refine ⟨ys ++ [.ref t0], ts ++ [⟨pl + shP (b.take j), c, []⟩], some (.ref e), some (.str "turn"), some (.int c), y6, y7, ?_, same_mut (s2.trans (z0.trans (z1.trans z2))) nD, upd_same, TVs.app (hT.tp ((Same.tp (z0.trans (z1.trans z2))).trans t3)) (.cons (hnew.tp t3) .nil), fun x => ?_, fun t h => ?_, ?_, fun t h y => ?_⟩
          · rw [shP_snoc hi, shI, Int.add_zero]
            rfl
          · rw [tvs_app, hval, seP_snoc hi, seI]
            congr 1
            show c * (if x - (pl + shP (b.take j)) = 0 then 1 else 0) + 0 = _
            rw [Int.add_zero]
            by_cases hx : x - (pl + shP (b.take j)) = 0
            · rw [if_pos hx, if_pos (by omega), Int.mul_one]
            · rw [if_neg hx, if_neg (by omega), Int.mul_zero]
          · rcases List.mem_append.mp h with z | z
            · exact hok t z
            · cases List.mem_singleton.mp z
              refine ⟨?_, Nat.le_trans wi (pow_le2 (by omega)), by show 0 + 1 ≤ k + 1; omega, fun r hr => absurd hr List.not_mem_nil⟩
              show ((pl + shP (b.take j) - pl).natAbs : Int) ≤ trP b
              have := trP_take b j
              omega
          · rw [List.length_append]
            show ts.length + 1 ≤ _
            omega
          · rcases List.mem_append.mp h with z | z
            · exact Nat.le_trans (hsc t z y) (st_le hi y)
            · cases List.mem_singleton.mp z
              exact Nat.zero_le _
        · have ht := same_t s2 ht0
          refine ⟨_, rfl, e, _, 0, _, rfl, rfl, ht, rfl, _, rfl, e, _, 1, _, rfl, rfl, ht, rfl, sl_of (show 2 ≤ 1000000 by decide), fun w0 nw0 => ?_⟩
          have z0 := same_new nw0 (o := HO.tup [V.str "repeat", V.int c])
          refine ⟨w0, _, rfl, SqT.of upd_same, rfl, _, _, rfl, _, _, rfl, rfl, ?_⟩
          refine ⟨_, rfl, rfl, _, rfl, iteN v_rs ?_⟩
          refine ⟨_, rfl, rfl, _, rfl, iteN v_rt ?_⟩
          have s3 := s2.trans z0
          have hD3 := z0 _ _ hD2
          have ht3 := same_t s3 ht0
          have hy3 := hy0.same s3
          have hni := NP_mem hn hm
          rw [NI] at hni
          rw [WI] at wi
          have hdi := dpP_mem hm
          rw [dpI] at hdi
          rw [cnI] at hcs
          rw [trI] at hts
          have hcb : cnP bb ≤ 1024 := by omega
          refine ⟨_, rfl, c, 0, rfl, rfl, _, rfl, ite2 (fun hc0 => ?_) fun hc0 => ?_⟩
          · have hc1 : 0 < c := of_decide_eq_true hc0
            have hca : ((c.natAbs : Nat) : Int) = c := by omega
            have hcn2 : ((c.toNat : Nat) : Int) = c := Int.toNat_of_nonneg hni.1
            have hsb : (shP bb).natAbs ≤ 2 ^ 331 := Nat.le_of_lt (sh_lt (k := 3) (by omega) (by decide) wi.2.2 wi.2.1)
            refine ⟨_, rfl, e, _, 2, _, rfl, rfl, ht3, rfl, y, bb, rfl, hy3, by omega, by decide, wi.2.2, wi.2.1, ?_⟩
            refine ⟨_, rfl, .inl ⟨rfl, _, SqL.of hD3⟩, ?_⟩
            dsimp only [tNext, tSeq, tCons, tNil]
            refine lcRepG (K := K) (fun t t' => Repd t c (shP bb) t' ∧ TOk (k + 1) (c * trP bb) (pl + shP (b.take j)) t' ∧ ∀ y, sct y t'.rs ≤ sct y t.rs + if y = ((shP bb).natAbs : Int) then 1 else 0) (fun us => (∀ x, tvs us x = seP bb (x - (pl + shP (b.take j)))) ∧ (∀ t ∈ us, TOk k (trP bb) (pl + shP (b.take j)) t) ∧ us.length ≤ cnP bb ∧ ∀ t ∈ us, ∀ y, sct y t.rs ≤ (sdP bb).count y) (fun R r => ?_) (fun us hz => by have := hz.2.2.1; omega) (fun _ => rfl) (fun us hz t htm x H5 s5 hx R r => ?_) fun L H5 zs us us' nL s5 hL hZ hz hPd => ?_
            · exact ⟨_, rfl, e, _, 2, _, rfl, rfl, ht3, rfl, _, rfl, y, pl + shP (b.take j), bb, rfl, hy3, by omega, by omega, wi.2.2, hni.2, hcb, fun D2 ys2 ts2 H5 s5 nD2 hD2' hT2 hv2 hok2 hl2 hs2 => r D2 ys2 ts2 H5 s5 hD2' hT2 ⟨hv2, hok2, hl2, hs2⟩⟩
            · exact ⟨_, rfl, _, rfl, _, rfl, x, t, c, shP bb, k, trP bb, pl + shP (b.take j), rfl, hx, hz.2.1 t htm, by omega, by omega, by omega, shP_tr bb, hsb, fun u H6 t' s6 hu hR hO hS => r u t' H6 s6 hu ⟨hR, hO, hS⟩⟩
            · have hD5 := s5 _ _ hD3
              have hzl := hZ.len
              have hul := Paired.length hPd
              have hl3 := hz.2.2.1
              have neDL : D ≠ L := ne_of_none hD3 nL
              refine ⟨D, L, ys, zs, rfl, rfl, hD5, hL, sl_of (by omega), ?_⟩
              have t6 : Tp H5 (upd H5 D (.lst (ys ++ zs))) := tp_lst hD5
              refine ⟨_, rfl, _, rfl, _, rfl, c, shP bb, rfl, rfl, wide_mul (a := 101) (b := 332) (Nat.lt_of_le_of_lt wi.1 (by decide +kernel)) (Nat.lt_of_le_of_lt hsb (by decide +kernel)) (by decide) (by decide) (by decide), _, _, rfl, rfl, ys ++ zs, ts ++ us', some (.ref e), some (.str "repeat"), some (.int c), some (.int (shP bb)), y7, ?_, same_mut (s3.trans s5) nD, upd_same, TVs.app (hT.tp ((Same.tp (z0.trans s5)).trans t6)) (hZ.tp t6), fun x => ?_, fun t h => ?_, ?_, fun t h y => ?_⟩
              · rw [shP_snoc hi, shI, ← Int.add_assoc]
                rfl
              · rw [tvs_app, hval, seP_snoc hi, seI, tvs_rep (n := c) (s := shP bb) (Paired.imp' (fun _ _ z => z.1) hPd), rsum_congr hz.1, rsum_move (fun z => seP bb z)]
                congr 2
                omega
              · rcases List.mem_append.mp h with z | z
                · exact hok t z
                · obtain ⟨t0, _, hRO⟩ := paired_mem hPd z
                  have hO := hRO.2.1
                  have h1 := hO.at_
                  refine ⟨?_, hO.co, hO.len, hO.rs⟩
                  rw [hca] at hts
                  have := trP_take b j
                  omega
              · rw [List.length_append]
                omega
              · rcases List.mem_append.mp h with z | z
                · exact Nat.le_trans (hsc t z y) (st_le hi y)
                · obtain ⟨t0, ht0m, hRO⟩ := paired_mem hPd z
                  have h1 := hRO.2.2 y
                  have h2 := hz.2.2.2 t0 ht0m y
                  have e : (sdP (b.take (j + 1))).count y = (sdP (b.take j)).count y + ((sdP bb).count y + if y = ((shP bb).natAbs : Int) then 1 else 0) := by
                    rw [sdP_snoc hi, List.count_append, sdI, List.count_cons]
                    by_cases w : y = ((shP bb).natAbs : Int)
                    · rw [if_pos w, if_pos (by rw [w, beq_self_eq_true])]
                    · rw [if_neg w, if_neg fun v => w (eq_of_beq v).symm]
                  rw [e]
                  omega
          · have hc1 : c = 0 := by
              have : ¬ (0 < c) := fun z => hc0 (decide_eq_true z)
              have := hni.1
              omega
            refine ⟨ys, ts, some (.ref e), some (.str "repeat"), some (.int c), y6, y7, ?_, s3, hD3, hT.tp (Same.tp z0), fun x => ?_, hok, by omega, fun t ht y => Nat.le_trans (hsc t ht y) (st_le hi y)⟩
            · rw [shP_snoc hi, shI, hc1, Int.zero_mul, Int.add_zero]
              rfl
            · rw [seP_snoc hi, seI, hc1]
              show _ = _ + 0
              rw [Int.add_zero]
              exact hval x
      · rintro σ H2 ⟨ys, ts, y3, y4, y5, y6, y7, rfl, s2, hD2, hT, hval, hok, hlen, hsc⟩
        rw [hI.len, List.take_length] at *
        exact ⟨_, rfl, q D ys ts H2 s2 nD hD2 hT hval hok hlen hsc⟩
    · refine ⟨_, (pss_cons (ps_set (i := 2) nd rfl (.inl rfl) (pe_lst pa_nil))
    (pss_cons (ps_for PassesOwn.never rfl (pi_tup (pv 0)) (pg_name (i := 3) nd rfl (.inl rfl))
      (pss_cons (ps_asg (pe_tup (pa_cons (pe_ix ix_tup (pv 3) pe_int (fun _ _ => rfl)) (pa_cons (pe_ix ix_tup (pv 3) pe_int (fun _ _ => rfl)) pa_nil))) (pg_tup rfl (pgs_cons (pg_name (i := 4) nd rfl (.inl rfl)) (pgs_cons (pg_name (i := 5) nd rfl (.inr rfl)) pgs_nil))))
    (pss_one (ps_if (pt_cmpR op_eq (pv 4) pe_str (nomark _))
      (pss_one (ps_aug (i := 1) nd rfl (.inl rfl) (pv 5) ip_add))
      (pss_one (ps_if (pt_cmpR op_eq (pv 4) pe_str (nomark _))
      (pss_one (ps_expr (pe_bm PySem.F.plainAttrs_list PySem.F.slot_list_append PySem.F.type_list_append mt_append (pv 2) (pa_cons (pe_tup (pa_cons (pv 1) (pa_cons (pv 5) (pa_cons (pe_tup pa_nil) pa_nil)))) pa_nil))))
      (pss_one (ps_if (pt_cmpR op_gt (pv 5) pe_int (nomark _))
      (pss_cons (ps_set (i := 6) nd rfl (.inr rfl) (pe_c C_shift_of hr (by omega) (by rfl) (pa_cons (pe_ix ix_tup (pv 3) pe_int (fun _ _ => rfl)) pa_nil)))
    (pss_cons (ps_expr (pe_bm PySem.F.plainAttrs_list PySem.F.slot_list_extend PySem.F.type_list_extend mt_extend (pv 2) (pa_cons (pe_lc (own := [("term", 7)]) (by rfl) nd (pi_list (pe_c C_terms_of hr (by omega) (by rfl) (pa_cons (pe_ix ix_tup (pv 3) pe_int (fun _ _ => rfl)) (pa_cons (pv 1) pa_nil)))) (blkOk_by (N := ["program", "place", "terms", "instruction", "word", "count", "stride", "term"]) (sc := defScope s_terms_of) (own := [("term", 7)]) (by decide +kernel)) (fun _ _ _ _ _ => (pg_name (i := 7) nd rfl (.inl rfl))) (fun _ _ _ _ _ => pts_nil) (fun _ _ _ _ _ => (pe_c C_repeated hr (by omega) (by rfl) (pa_cons (pv 7) (pa_cons (pv 5) (pa_cons (pv 6) pa_nil)))))) pa_nil)))
    (pss_one (ps_aug (i := 1) nd rfl (.inl rfl) (pe_op op_mulW (pv 5) (pv 6)) ip_add))))
      pss_nil))))))))
    (pss_one (ps_ret (pv 2))))), ?_⟩
      refine ⟨Nat.zero_le _, fun D nD => ?_⟩
      have s1 := same_new nD (o := HO.lst [])
      refine ⟨_, rfl, a, rfl, ⟨_, same_t s1 hs⟩, for_tup (K := K) (a := a) (xs := xs) (fun j σ H2 => ∃ (ys : List V) (ts : List Tm) (y3 y4 y5 y6 y7 : Option V), σ = [some (.ref a), some (.int (pl + shP (b.take j))), some (.ref D), y3, y4, y5, y6, y7] ∧ Same H H2 ∧ H2 D = some (.lst ys) ∧ TVs K H2 ys ts ∧ (∀ x, tvs ts x = seP (b.take j) (x - pl)) ∧ (∀ t ∈ ts, TOk (k + 1) (trP b) pl t) ∧ ts.length ≤ cnP (b.take j) ∧ (∀ t ∈ ts, ∀ y, sct y t.rs ≤ (sdP (b.take j)).count y)) ⟨[], [], none, none, none, none, none, by rw [List.take_zero, shP_nil, Int.add_zero]; rfl, s1, upd_same, .nil, fun x => by rw [List.take_zero, seP_nil]; rfl, fun t h => absurd h List.not_mem_nil, Nat.zero_le _, fun t h => absurd h List.not_mem_nil⟩ ?_ ?_ ?_⟩
      · rintro j σ H2 _ ⟨_, _, _, _, _, _, _, _, s2, _⟩
        exact same_t s2 hs
      · rintro j x σ H2 hj ⟨ys, ts, y3, y4, y5, y6, y7, rfl, s2, hD2, hT, hval, hok, hlen, hsc⟩
        obtain ⟨i, hi, hx0⟩ := hI.get hj
        have hm := List.mem_of_getElem? hi
        have hcj := cnP_take' b j
        have hcs := cnP_snoc' hi
        have hcj1 := cnP_take' b (j + 1)
        have htk := trP_take b (j + 1)
        have hts := trP_snoc hi
        have hsh := shP_tr (b.take j)
        have wi := WP_mem hw hm
        have hyl := hT.len
        rcases hx0.inv with ⟨e, c, rfl, ht0, rfl⟩ | ⟨e, c, rfl, ht0, rfl⟩ | ⟨e, c, y, bb, rfl, ht0, hy0, rfl⟩
        · have ht := same_t s2 ht0
          refine ⟨_, rfl, e, _, 0, _, rfl, rfl, ht, rfl, _, rfl, e, _, 1, _, rfl, rfl, ht, rfl, sl_of (show 2 ≤ 1000000 by decide), fun w0 nw0 => ?_⟩
          have z0 := same_new nw0 (o := HO.tup [V.str "step", V.int c])
          refine ⟨w0, _, rfl, SqT.of upd_same, rfl, _, _, rfl, _, _, rfl, rfl, ?_⟩
          refine ⟨_, rfl, rfl, _, rfl, iteS rfl ?_⟩
          refine ⟨_, rfl, _, rfl, _, _, rfl, rfl, ys, ts, some (.ref e), some (.str "step"), some (.int c), y6, y7, ?_, s2.trans z0, z0 _ _ hD2, hT.tp (Same.tp z0), fun x => ?_, hok, by omega, fun t ht y => Nat.le_trans (hsc t ht y) (st_le hi y)⟩
          · rw [shP_snoc hi, shI, ← Int.add_assoc]
            rfl
          · rw [seP_snoc hi, seI, Int.add_zero]
            exact hval x
        · have ht := same_t s2 ht0
          refine ⟨_, rfl, e, _, 0, _, rfl, rfl, ht, rfl, _, rfl, e, _, 1, _, rfl, rfl, ht, rfl, sl_of (show 2 ≤ 1000000 by decide), fun w0 nw0 => ?_⟩
          have z0 := same_new nw0 (o := HO.tup [V.str "turn", V.int c])
          refine ⟨w0, _, rfl, SqT.of upd_same, rfl, _, _, rfl, _, _, rfl, rfl, ?_⟩
          refine ⟨_, rfl, rfl, _, rfl, iteN v_ts ?_⟩
          refine ⟨_, rfl, rfl, _, rfl, iteS rfl ?_⟩
          have hD3 := z0 _ _ hD2
          refine ⟨_, rfl, .inl ⟨rfl, _, SqL.of hD3⟩, _, rfl, _, rfl, Nat.zero_le _, fun e0 ne0 => ?_⟩
          have z1 := same_new ne0 (o := HO.tup [])
          refine ⟨sl_of (show 3 ≤ 1000000 by decide), fun t0 nt0 => ?_⟩
          have z2 := same_new nt0 (o := HO.tup [V.int (pl + shP (b.take j)), V.int c, V.ref e0])
          have hD4 := (z1.trans z2) _ _ hD3
          rw [WI] at wi
          rw [cnI] at hcs
          refine ⟨D, ys, _, rfl, rfl, hD4, sl_lt (by omega), ?_⟩
          have t3 : Tp (upd (upd (upd H2 w0 (HO.tup [V.str "turn", V.int c])) e0 (HO.tup [])) t0 (HO.tup [V.int (pl + shP (b.take j)), V.int c, V.ref e0])) (upd (upd (upd (upd H2 w0 (HO.tup [V.str "turn", V.int c])) e0 (HO.tup [])) t0 (HO.tup [V.int (pl + shP (b.take j)), V.int c, V.ref e0])) D (.lst (ys ++ [.ref t0]))) := tp_lst hD4
          have hnew : TermV K (upd (upd (upd H2 w0 (HO.tup [V.str "turn", V.int c])) e0 (HO.tup [])) t0 (HO.tup [V.int (pl + shP (b.take j)), V.int c, V.ref e0])) (.ref t0) ⟨pl + shP (b.take j), c, []⟩ := ⟨t0, _, rfl, SqT.of upd_same, e0, [], rfl, same_t z2 (SqT.of upd_same), .nil⟩
          refine ⟨ys ++ [.ref t0], ts ++ [⟨pl + shP (b.take j), c, []⟩], some (.ref e), some (.str "turn"), some (.int c), y6, y7, ?_, same_mut (s2.trans (z0.trans (z1.trans z2))) nD, upd_same, TVs.app (hT.tp ((Same.tp (z0.trans (z1.trans z2))).trans t3)) (.cons (hnew.tp t3) .nil), fun x => ?_, fun t h => ?_, ?_, fun t h y => ?_⟩
          · rw [shP_snoc hi, shI, Int.add_zero]
            rfl
          · rw [tvs_app, hval, seP_snoc hi, seI]
            congr 1
            show c * (if x - (pl + shP (b.take j)) = 0 then 1 else 0) + 0 = _
            rw [Int.add_zero]
            by_cases hx : x - (pl + shP (b.take j)) = 0
            · rw [if_pos hx, if_pos (by omega), Int.mul_one]
            · rw [if_neg hx, if_neg (by omega), Int.mul_zero]
          · rcases List.mem_append.mp h with z | z
            · exact hok t z
            · cases List.mem_singleton.mp z
              refine ⟨?_, Nat.le_trans wi (pow_le2 (by omega)), by show 0 + 1 ≤ k + 1; omega, fun r hr => absurd hr List.not_mem_nil⟩
              show ((pl + shP (b.take j) - pl).natAbs : Int) ≤ trP b
              have := trP_take b j
              omega
          · rw [List.length_append]
            show ts.length + 1 ≤ _
            omega
          · rcases List.mem_append.mp h with z | z
            · exact Nat.le_trans (hsc t z y) (st_le hi y)
            · cases List.mem_singleton.mp z
              exact Nat.zero_le _
        · have ht := same_t s2 ht0
          refine ⟨_, rfl, e, _, 0, _, rfl, rfl, ht, rfl, _, rfl, e, _, 1, _, rfl, rfl, ht, rfl, sl_of (show 2 ≤ 1000000 by decide), fun w0 nw0 => ?_⟩
          have z0 := same_new nw0 (o := HO.tup [V.str "repeat", V.int c])
          refine ⟨w0, _, rfl, SqT.of upd_same, rfl, _, _, rfl, _, _, rfl, rfl, ?_⟩
          refine ⟨_, rfl, rfl, _, rfl, iteN v_rs ?_⟩
          refine ⟨_, rfl, rfl, _, rfl, iteN v_rt ?_⟩
          have s3 := s2.trans z0
          have hD3 := z0 _ _ hD2
          have ht3 := same_t s3 ht0
          have hy3 := hy0.same s3
          have hni := NP_mem hn hm
          rw [NI] at hni
          rw [WI] at wi
          have hdi := dpP_mem hm
          rw [dpI] at hdi
          rw [cnI] at hcs
          rw [trI] at hts
          have hcb : cnP bb ≤ 1024 := by omega
          refine ⟨_, rfl, c, 0, rfl, rfl, _, rfl, ite2 (fun hc0 => ?_) fun hc0 => ?_⟩
          · have hc1 : 0 < c := of_decide_eq_true hc0
            have hca : ((c.natAbs : Nat) : Int) = c := by omega
            have hcn2 : ((c.toNat : Nat) : Int) = c := Int.toNat_of_nonneg hni.1
            have hsb : (shP bb).natAbs ≤ 2 ^ 331 := Nat.le_of_lt (sh_lt (k := 3) (by omega) (by decide) wi.2.2 wi.2.1)
            refine ⟨_, rfl, e, _, 2, _, rfl, rfl, ht3, rfl, y, bb, rfl, hy3, by omega, by decide, wi.2.2, wi.2.1, ?_⟩
            refine ⟨_, rfl, .inl ⟨rfl, _, SqL.of hD3⟩, ?_⟩
            dsimp only [tNext, tSeq, tCons, tNil]
            refine lcRepG (K := K) (fun t t' => Repd t c (shP bb) t' ∧ TOk (k + 1) (c * trP bb) (pl + shP (b.take j)) t' ∧ ∀ y, sct y t'.rs ≤ sct y t.rs + if y = ((shP bb).natAbs : Int) then 1 else 0) (fun us => (∀ x, tvs us x = seP bb (x - (pl + shP (b.take j)))) ∧ (∀ t ∈ us, TOk k (trP bb) (pl + shP (b.take j)) t) ∧ us.length ≤ cnP bb ∧ ∀ t ∈ us, ∀ y, sct y t.rs ≤ (sdP bb).count y) (fun R r => ?_) (fun us hz => by have := hz.2.2.1; omega) (fun _ => rfl) (fun us hz t htm x H5 s5 hx R r => ?_) fun L H5 zs us us' nL s5 hL hZ hz hPd => ?_
            · exact ⟨_, rfl, e, _, 2, _, rfl, rfl, ht3, rfl, _, rfl, y, pl + shP (b.take j), bb, rfl, hy3, by omega, by omega, wi.2.2, hni.2, hcb, fun D2 ys2 ts2 H5 s5 nD2 hD2' hT2 hv2 hok2 hl2 hs2 => r D2 ys2 ts2 H5 s5 hD2' hT2 ⟨hv2, hok2, hl2, hs2⟩⟩
            · exact ⟨_, rfl, _, rfl, _, rfl, x, t, c, shP bb, k, trP bb, pl + shP (b.take j), rfl, hx, hz.2.1 t htm, by omega, by omega, by omega, shP_tr bb, hsb, fun u H6 t' s6 hu hR hO hS => r u t' H6 s6 hu ⟨hR, hO, hS⟩⟩
            · have hD5 := s5 _ _ hD3
              have hzl := hZ.len
              have hul := Paired.length hPd
              have hl3 := hz.2.2.1
              have neDL : D ≠ L := ne_of_none hD3 nL
              refine ⟨D, L, ys, zs, rfl, rfl, hD5, hL, sl_of (by omega), ?_⟩
              have t6 : Tp H5 (upd H5 D (.lst (ys ++ zs))) := tp_lst hD5
              refine ⟨_, rfl, _, rfl, _, rfl, c, shP bb, rfl, rfl, wide_mul (a := 101) (b := 332) (Nat.lt_of_le_of_lt wi.1 (by decide +kernel)) (Nat.lt_of_le_of_lt hsb (by decide +kernel)) (by decide) (by decide) (by decide), _, _, rfl, rfl, ys ++ zs, ts ++ us', some (.ref e), some (.str "repeat"), some (.int c), some (.int (shP bb)), y7, ?_, same_mut (s3.trans s5) nD, upd_same, TVs.app (hT.tp ((Same.tp (z0.trans s5)).trans t6)) (hZ.tp t6), fun x => ?_, fun t h => ?_, ?_, fun t h y => ?_⟩
              · rw [shP_snoc hi, shI, ← Int.add_assoc]
                rfl
              · rw [tvs_app, hval, seP_snoc hi, seI, tvs_rep (n := c) (s := shP bb) (Paired.imp' (fun _ _ z => z.1) hPd), rsum_congr hz.1, rsum_move (fun z => seP bb z)]
                congr 2
                omega
              · rcases List.mem_append.mp h with z | z
                · exact hok t z
                · obtain ⟨t0, _, hRO⟩ := paired_mem hPd z
                  have hO := hRO.2.1
                  have h1 := hO.at_
                  refine ⟨?_, hO.co, hO.len, hO.rs⟩
                  rw [hca] at hts
                  have := trP_take b j
                  omega
              · rw [List.length_append]
                omega
              · rcases List.mem_append.mp h with z | z
                · exact Nat.le_trans (hsc t z y) (st_le hi y)
                · obtain ⟨t0, ht0m, hRO⟩ := paired_mem hPd z
                  have h1 := hRO.2.2 y
                  have h2 := hz.2.2.2 t0 ht0m y
                  have e : (sdP (b.take (j + 1))).count y = (sdP (b.take j)).count y + ((sdP bb).count y + if y = ((shP bb).natAbs : Int) then 1 else 0) := by
                    rw [sdP_snoc hi, List.count_append, sdI, List.count_cons]
                    by_cases w : y = ((shP bb).natAbs : Int)
                    · rw [if_pos w, if_pos (by rw [w, beq_self_eq_true])]
                    · rw [if_neg w, if_neg fun v => w (eq_of_beq v).symm]
                  rw [e]
                  omega
          · have hc1 : c = 0 := by
              have : ¬ (0 < c) := fun z => hc0 (decide_eq_true z)
              have := hni.1
              omega
            refine ⟨ys, ts, some (.ref e), some (.str "repeat"), some (.int c), y6, y7, ?_, s3, hD3, hT.tp (Same.tp z0), fun x => ?_, hok, by omega, fun t ht y => Nat.le_trans (hsc t ht y) (st_le hi y)⟩
            · rw [shP_snoc hi, shI, hc1, Int.zero_mul, Int.add_zero]
              rfl
            · rw [seP_snoc hi, seI, hc1]
              show _ = _ + 0
              rw [Int.add_zero]
              exact hval x
      · rintro σ H2 ⟨ys, ts, y3, y4, y5, y6, y7, rfl, s2, hD2, hT, hval, hok, hlen, hsc⟩
        rw [hI.len, List.take_length] at *
        exact ⟨_, rfl, q D ys ts H2 s2 nD hD2 hT hval hok hlen hsc⟩
theorem sc_pairs_at : FnScope ["one", "other", "distance", "count", "stride", "number", "pace", "divisor", "factor", "period", "rest", "greatest", "least"] ["one", "other", "distance"] (defScope s_pairs_at) := ⟨rfl, rfl, rfl, by decide +kernel, rfl, by decide +kernel, by decide +kernel⟩
theorem pairs_ok {n a m b d g f : Int} (hn : 1 ≤ n) (hm : 1 ≤ m) (ha : 0 < a) (hb : 0 < b) (hg : 0 < g) (ga : g ∣ a) (gb : g ∣ b) (hf : b ∣ a * f - g) (gd : g ∣ d) :
    (if (((if d / a < n - 1 then d / a else n - 1) - d / g * f % (b / g)) / (b / g) - ((if -((b * (m - 1) - d) / a) > 0 then -((b * (m - 1) - d) / a) else 0) - 1 - d / g * f % (b / g)) / (b / g)) > 0 then ((if d / a < n - 1 then d / a else n - 1) - d / g * f % (b / g)) / (b / g) - ((if -((b * (m - 1) - d) / a) > 0 then -((b * (m - 1) - d) / a) else 0) - 1 - d / g * f % (b / g)) / (b / g) else 0) = wy [(n, a), (m, b)] d := by
  have h := wy_two (m := m.toNat) ha hb hg ga gb hf gd n.toNat
  have hP : 0 < b / g := by
    obtain ⟨P, rfl⟩ := gb
    rw [Int.mul_ediv_cancel_left P (by omega)]
    exact Int.pos_of_mul_pos_right hb (by omega)
  rw [cnt_eq hP, Int.toNat_of_nonneg (by omega), Int.toNat_of_nonneg (by omega)] at h
  show _ = rsum (fun y => rsum (fun z => if z = 0 then (1 : Int) else 0) b m.toNat y) a n.toNat d
  rw [h]
  generalize d / g * f % (b / g) = r
  generalize b / g = P
  generalize (b * (m - 1) - d) / a = u
  generalize d / a = v
  have e1 : (if v < n - 1 then v else n - 1) = min (n - 1) v := by split <;> omega
  have e2 : (if -u > 0 then -u else 0) = max 0 (-u) := by split <;> omega
  rw [e1, e2]
  split <;> omega
theorem ok_pairs_at {f : Addr} {fd : FuncData} (F : Fun K "pairs_at" "pairs_at" s_pairs_at f fd) (B : Blt mg) (C_common_divisor : Cal P w K mg base 1 "common_divisor" sp_common_divisor) : FnOk P w K mg base CX0 2 f fd ["one", "other", "distance"] (sp_pairs_at K) := by
  refine F.ok sc_pairs_at (fun vs H Q E h => ?_) (fun cdv A outer s H vs Q E hr h => ?_)
  · obtain ⟨x, y, n, a, m, b, d, rfl, _⟩ := h
    rfl
  · obtain ⟨x, y, n, a, m, b, d, rfl, ⟨p1, rfl, hx⟩, ⟨p2, rfl, hy⟩, hn, hn2, hm, hm2, ha, ha2, hb, hb2, hd, q⟩ := h
    have nd := sc_pairs_at.nd
    have lt : ∀ z : Int, 1 ≤ z → z ≤ 2 ^ 331 → z.natAbs < 2 ^ 400 := fun z z1 z2 => Nat.lt_of_le_of_lt (show z.natAbs ≤ 2 ^ 331 by omega) (by decide +kernel)
    refine ⟨_, (pss_cons (ps_asg (pv 0) (pg_tup rfl (pgs_cons (pg_name (i := 3) nd rfl (.inl rfl)) (pgs_cons (pg_name (i := 4) nd rfl (.inl rfl)) pgs_nil))))
    (pss_cons (ps_asg (pv 1) (pg_tup rfl (pgs_cons (pg_name (i := 5) nd rfl (.inl rfl)) (pgs_cons (pg_name (i := 6) nd rfl (.inl rfl)) pgs_nil))))
    (pss_cons (ps_asg (pe_c C_common_divisor hr (by decide) (by rfl) (pa_cons (pv 4) (pa_cons (pv 6) pa_nil))) (pg_tup rfl (pgs_cons (pg_name (i := 7) nd rfl (.inl rfl)) (pgs_cons (pg_name (i := 8) nd rfl (.inl rfl)) pgs_nil))))
    (pss_cons (ps_if (pt_cmpR op_ne (pe_op op_mod (pv 2) (pv 7)) pe_int (nomark _))
      (pss_one (ps_ret pe_int))
      pss_nil)
    (pss_cons (ps_set (i := 9) nd rfl (.inl rfl) (pe_op op_fdivW (pv 6) (pv 7)))
    (pss_cons (ps_set (i := 10) nd rfl (.inl rfl) (pe_op op_mod (pe_op op_mulW (pe_op op_fdivW (pv 2) (pv 7)) (pv 8)) (pv 9)))
    (pss_cons (ps_set (i := 11) nd rfl (.inl rfl) (pe_callB (call_min2 rfl) (by rfl) B.min (by decide +kernel) (pa_cons (pe_op op_sub (pv 3) pe_int) (pa_cons (pe_op op_fdivW (pv 2) (pv 4)) pa_nil))))
    (pss_cons (ps_set (i := 12) nd rfl (.inl rfl) (pe_callB (call_max2 rfl) (by rfl) B.max (by decide +kernel) (pa_cons pe_int (pa_cons (pe_un un_neg (pe_op op_fdivW (pe_op op_sub (pe_op op_mulW (pv 6) (pe_op op_sub (pv 5) pe_int)) (pv 2)) (pv 4))) pa_nil))))
    (pss_one (ps_ret (pe_callB (call_max2 rfl) (by rfl) B.max (by decide +kernel) (pa_cons pe_int (pa_cons (pe_op op_sub (pe_op op_fdivW (pe_op op_sub (pv 11) (pv 10)) (pv 9)) (pe_op op_fdivW (pe_op op_sub (pe_op op_sub (pv 12) pe_int) (pv 10)) (pv 9))) pa_nil))))))))))))), ?_⟩
    refine ⟨_, rfl, p1, _, rfl, hx, rfl, _, _, rfl, _, _, rfl, rfl, ?_⟩
    refine ⟨_, rfl, p2, _, rfl, hy, rfl, _, _, rfl, _, _, rfl, rfl, ?_⟩
    refine ⟨_, rfl, _, rfl, a, b, rfl, by omega, by omega, lt a ha ha2, lt b hb hb2, fun t H2 g f s2 ht hg ga gb hf hfb => ?_⟩
    refine ⟨t, _, rfl, SqT.of ht, rfl, _, _, rfl, _, _, rfl, rfl, ?_⟩
    have gle : g ≤ b := Int.le_of_dvd (by omega) gb
    have gb4 : g.natAbs < 2 ^ 400 := lt g (by omega) (by omega)
    refine ⟨_, rfl, _, rfl, d, g, rfl, rfl, hg, rfl, _, rfl, ?_⟩
    by_cases gd : g ∣ d
    · refine iteNS (show V.int (d % g) = V.int 0 by rw [Int.emod_eq_zero_of_dvd gd]) ?_
      have hP : 0 < b / g := by
        obtain ⟨P, e⟩ := gb
        rw [e, Int.mul_ediv_cancel_left P (by omega)]
        exact Int.pos_of_mul_pos_right (by omega : 0 < g * P) (by omega)
      have hPb : (b / g).natAbs < 2 ^ 400 := Nat.lt_of_le_of_lt (ediv_bd hg) (lt b hb hb2)
      refine ⟨_, rfl, _, rfl, b, g, rfl, rfl, wide_div hg gb4 (by decide) (by decide), ?_⟩
      refine ⟨_, rfl, _, rfl, d, g, rfl, rfl, wide_div hg gb4 (by decide) (by decide), _, rfl, d / g, f, rfl, rfl, wide_mul (Nat.lt_of_le_of_lt (ediv_bd hg) hd) (Nat.lt_of_le_of_lt hfb (lt b hb hb2)) (by decide) (by decide) (by decide), _, rfl, _, _, rfl, rfl, hP, ?_⟩
      refine ⟨_, rfl, n, 1, rfl, rfl, _, rfl, _, rfl, d, a, rfl, rfl, wide_div (by omega) (lt a ha ha2) (by decide) (by decide), _, _, rfl, ?_⟩
      refine ⟨_, rfl, _, rfl, m, 1, rfl, rfl, b, _, rfl, rfl, wide_mul (a := 400) (b := 101) (lt b hb hb2) (Nat.lt_of_le_of_lt (show (m - 1).natAbs ≤ 2 ^ 100 by omega) (by decide +kernel)) (by decide) (by decide) (by decide), _, rfl, _, d, rfl, rfl, _, rfl, _, a, rfl, rfl, wide_div (by omega) (lt a ha ha2) (by decide) (by decide), _, rfl, _, _, rfl, ?_⟩
      refine ⟨_, rfl, _, rfl, _, _, rfl, rfl, _, rfl, _, _, rfl, rfl, wide_div hP hPb (by decide) (by decide), _, rfl, _, 1, rfl, rfl, _, rfl, _, _, rfl, rfl, _, rfl, _, _, rfl, rfl, wide_div hP hPb (by decide) (by decide), _, _, rfl, rfl, _, _, rfl, ?_⟩
      have := q H2 s2
      rw [← pairs_ok hn hm (by omega) (by omega) hg ga gb hf gd] at this
      exact this
    · refine iteNN (fun z => gd (Int.dvd_of_emod_eq_zero (by injection z))) ?_
      have h0 : wy [(n, a), (m, b)] d = 0 := wy_none (m := m.toNat) (by omega) ga gb gd n.toNat
      rw [← h0]
      exact q H2 s2
theorem sc_ways_at : FnScope ["rounds", "distance", "count", "stride", "one", "other", "k"] ["rounds", "distance"] (defScope s_ways_at) := ⟨rfl, rfl, rfl, by decide +kernel, rfl, by decide +kernel, by decide +kernel⟩
theorem ok_ways_at {f : Addr} {fd : FuncData} (F : Fun K "ways_at" "ways_at" s_ways_at f fd) (B : Blt mg) (C_pairs_at : Cal P w K mg base 2 "pairs_at" (sp_pairs_at K)) : FnOk P w K mg base CX0 3 f fd ["rounds", "distance"] (sp_ways_at K) := by
  refine F.ok sc_ways_at (fun vs H Q E h => ?_) (fun cdv A outer s H vs Q E hr h => ?_)
  · obtain ⟨v, rs, d, rfl, _⟩ := h
    rfl
  · obtain ⟨v, rs, d, rfl, ⟨a, xs, rfl, hs, hP⟩, hl, hrs, hd, q⟩ := h
    have nd := sc_ways_at.nd
    refine ⟨_, (pss_cons (ps_if (pt_not (pt_truth (pv 0) (by intro _; rfl)))
      (pss_one (ps_ret (pe_ifExp (pt_cmpR op_eq (pv 1) pe_int (nomark _)) pe_int pe_int)))
      pss_nil)
    (pss_cons (ps_if (pt_cmpR op_gt (pe_callB call_len_seq (by rfl) B.len (by decide +kernel) (pa_cons (pv 0) pa_nil)) pe_int (nomark _))
      pss_never
      pss_nil)
    (pss_cons (ps_asg (pe_slice sl_tupA (pe_op op_catA (pv 0) (pe_tup (pa_cons (pe_tup (pa_cons pe_int (pa_cons pe_int pa_nil))) pa_nil))) po_none (po_some pe_int)) (pg_tup rfl (pgs_cons (pg_name (i := 4) nd rfl (.inl rfl)) (pgs_cons (pg_name (i := 5) nd rfl (.inl rfl)) pgs_nil))))
    (pss_one (ps_ret (pe_c C_pairs_at hr (by decide) (by rfl) (pa_cons (pv 4) (pa_cons (pv 5) (pa_cons (pv 1) pa_nil))))))))), ?_⟩
    have hxl := hP.len
    refine ⟨_, rfl, _, .inr (.inl ⟨xs, hs, rfl⟩), ite2 (fun z => ?_) (fun z => ?_)⟩
    · have hx0 : xs = [] := by
        cases xs with
        | nil => rfl
        | cons _ _ => exact absurd z (by simp)
      subst hx0
      cases hP
      refine ⟨_, rfl, rfl, _, rfl, ?_⟩
      refine ite2 (fun z => ?_) (fun z => ?_)
      · have := q H (Same.refl _)
        rw [wy_nil, if_pos (by simpa using z)] at this
        exact this
      · have := q H (Same.refl _)
        rw [wy_nil, if_neg (by simpa using z)] at this
        exact this
    refine ⟨_, rfl, a, xs, rfl, .inr hs, _, 2, rfl, rfl, _, rfl, iteN (by omega) ?_⟩
    refine ⟨_, rfl, sl_of (show 2 ≤ 1000000 by decide), fun t1 n1 => ?_⟩
    have z1 := same_new n1 (o := HO.tup [V.int 1, V.int 1])
    refine ⟨sl_of (show 1 ≤ 1000000 by decide), fun t3 n3 => ?_⟩
    have z3 := same_new n3 (o := HO.tup [V.ref t1])
    have S := z1.trans z3
    have hs3 := same_t S hs
    have hP3 := Prs.tp (Same.tp S) hP
    have i1 : IsPr K (upd (upd H t1 (HO.tup [V.int 1, V.int 1])) t3 (HO.tup [V.ref t1])) (V.ref t1) (1, 1) := ⟨t1, rfl, same_t z3 (SqT.of upd_same)⟩
    have fin : ∀ (H5 : Hp) (x y : V) (r1 r2 : Int × Int), Same H H5 → IsPr K H5 x r1 → IsPr K H5 y r2 → RsOk [r1, r2] → wy [r1, r2] d = wy rs d → ∀ (R : VK), (∀ H', Same H5 H' → R (.int (wy rs d)) H' ) → sp_pairs_at K [x, y, .int d] H5 R (fun _ _ _ => False) := fun H5 x y r1 r2 s5 h1 h2 hok e R hR => by
      have a1 := hok r1 (by simp)
      have a2 := hok r2 (by simp)
      refine ⟨x, y, r1.1, r1.2, r2.1, r2.2, d, rfl, h1, h2, a1.1, a1.2.1, a2.1, a2.2.1, a1.2.2.1, a1.2.2.2, a2.2.2.1, a2.2.2.2, hd, fun H' s' => ?_⟩
      have := hR H' s'
      rw [← e] at this
      exact this
    have one : 1 ≤ (1 : Int) ∧ (1 : Int) ≤ 2 ^ 100 ∧ 1 ≤ (1 : Int) ∧ (1 : Int) ≤ 2 ^ 331 := by decide +kernel
    cases hP3 with
    | nil => exact absurd rfl z
    | @cons x r xs' rs' hx tl =>
      cases tl with
      | nil =>
        refine ⟨a, t3, [x], _, rfl, rfl, hs3, SqT.of upd_same, sl_of (show 1 + 1 ≤ 1000000 by decide), (fun z => by cases z), (fun _ z => by cases z), fun _ _ t4 n4 => ?_⟩
        have z4 := same_new n4 (o := HO.tup ([x] ++ [V.ref t1]))
        refine ⟨2, rfl, t4, _, rfl, SqT.of upd_same, (fun _ => ?_), fun z => absurd (show HT.sIx 2 0 none = 0 ∧ HT.sIx 2 2 (some 2) = 2 by decide +kernel) z⟩
        refine ⟨t4, [x, V.ref t1], rfl, SqT.of upd_same, rfl, _, _, rfl, _, _, rfl, rfl, ?_⟩
        refine ⟨_, rfl, _, rfl, _, rfl, fin _ _ _ r (1, 1) (S.trans z4) (hx.tp (Same.tp z4)) (i1.tp (Same.tp z4)) (fun r' hr => ?_) (wy_pad1 r d) _ fun H' s' => q H' ((S.trans z4).trans s')⟩
        rcases List.mem_cons.mp hr with e | hr
        · rw [e]; exact hrs r (by simp)
        · have : r' = (1, 1) := by simpa using hr
          rw [this]
          exact one
      | @cons x2 r2 xs'' rs'' hx2 tl2 =>
        cases tl2 with
        | nil =>
          refine ⟨a, t3, [x, x2], _, rfl, rfl, hs3, SqT.of upd_same, sl_of (show 2 + 1 ≤ 1000000 by decide), (fun z => by cases z), (fun _ z => by cases z), fun _ _ t4 n4 => ?_⟩
          have z4 := same_new n4 (o := HO.tup ([x, x2] ++ [V.ref t1]))
          refine ⟨2, rfl, t4, _, rfl, SqT.of upd_same, (fun z => absurd (show HT.sIx 3 0 none = 0 ∧ HT.sIx 3 3 (some 2) = 3 from z) (by decide +kernel)), fun _ t5 n5 => ?_⟩
          have z5 := same_new n5 (o := HO.tup (cutV ([x, x2] ++ [V.ref t1]) none (some 2)))
          refine ⟨t5, [x, x2], rfl, SqT.of (show upd _ t5 (HO.tup (cutV ([x, x2] ++ [V.ref t1]) none (some 2))) t5 = some (HO.tup [x, x2]) from upd_same), rfl, _, _, rfl, _, _, rfl, rfl, ?_⟩
          have S5 := z4.trans z5
          exact ⟨_, rfl, _, rfl, _, rfl, fin _ _ _ r r2 (S.trans S5) (hx.tp (Same.tp S5)) (hx2.tp (Same.tp S5)) hrs rfl _ fun H' s' => q H' ((S.trans S5).trans s')⟩
        | cons _ _ => exact absurd hl (by simp)
theorem sc_value_of : FnScope ["prime", "terms", "place", "start", "coefficient", "rounds"] ["prime", "terms", "place"] (defScope s_value_of) := ⟨rfl, rfl, rfl, by decide +kernel, rfl, by decide +kernel, by decide +kernel⟩
theorem ok_value_of {f : Addr} {fd : FuncData} (F : Fun K "value_of" "value_of" s_value_of f fd) (B : Blt mg) (C_ways_at : Cal P w K mg base 3 "ways_at" (sp_ways_at K)) : FnOk P w K mg base CX0 4 f fd ["prime", "terms", "place"] (sp_value_of K) := by
  refine F.ok sc_value_of (fun vs H Q E h => ?_) (fun cdv A outer s H vs Q E hr h => ?_)
  · obtain ⟨p, D, ys, ts, x, pl, T, rfl, _⟩ := h
    rfl
  · obtain ⟨p, D, ys, ts, x, pl, T, rfl, hp, hD, hT, hl, hok, hTb, hx, q⟩ := h
    have nd := sc_value_of.nd
    refine ⟨_, (pss_one (ps_ret (pe_op op_mod (pe_callB (cr_sum rfl) (by rfl) B.sum (by decide +kernel) (pa_cons (pe_lc (own := [("start", 3), ("coefficient", 4), ("rounds", 5)]) (g := gTup K 3 (gCons (gName 3) (gCons (gName 4) (gCons (gName 5) gNil)))) (by rfl) nd (pi_list (pv 1)) (blkOk_by (N := ["prime", "terms", "place", "start", "coefficient", "rounds"]) (sc := defScope s_value_of) (own := [("start", 3), ("coefficient", 4), ("rounds", 5)]) (by decide +kernel)) (fun _ _ _ _ _ => (pg_tup rfl (pgs_cons (pg_name (i := 3) nd rfl (.inl rfl) (.inr rfl)) (pgs_cons (pg_name (i := 4) nd rfl (.inl rfl) (.inr rfl)) (pgs_cons (pg_name (i := 5) nd rfl (.inl rfl) (.inr rfl)) pgs_nil))))) (fun _ _ _ _ _ => pts_nil) (fun _ _ _ _ _ => (pe_op op_mulW (pv 4) (pe_c C_ways_at hr (by decide) (by rfl) (pa_cons (pv 5) (pa_cons (pe_op op_sub (pv 2) (pv 3)) pa_nil)))))) pa_nil)) (pv 0)))), ?_⟩
    dsimp only [tNext, tSeq, tRet, tOp, tCB, tCons, tNil]
    refine lcTm (K := K) (fun t => t.co * wy t.rs (x - t.pl)) (fun R r => ⟨_, rfl, r⟩) hD hT hl (fun _ _ _ => rfl) (fun t ht y H2 s2 hy R r => ?_) fun L H2 nL s2 hL => ?_
    · have ok := hok t ht
      have hd : (x - t.pl).natAbs < 2 ^ 400 := by
        have h1 := ok.at_
        have h2 : (2 : Nat) ^ 330 + 2 ^ 340 < 2 ^ 400 := by decide +kernel
        omega
      refine ⟨_, rfl, _, rfl, _, rfl, _, rfl, x, t.pl, rfl, rfl, y, t.rs, x - t.pl, rfl, hy, by have := ok.len; omega, ok.rs, hd, fun H3 s3 => ?_⟩
      refine ⟨t.co, _, rfl, rfl, wide_mul (a := 301) (b := 201) (Nat.lt_of_le_of_lt ok.co (by decide +kernel)) (wy_lt ok.rs (by have := ok.len; omega) _) (by decide) (by decide) (by decide), r H3 s3⟩
    · have q2 : Q (V.int ((ts.map fun t : Tm => t.co * wy t.rs (x - t.pl)).sum % p)) H2 := q H2 s2
      exact ⟨L, ts.map (fun t : Tm => t.co * wy t.rs (x - t.pl)), rfl, SqL.of hL, _, rfl, _, p, rfl, rfl, hp, q2⟩
theorem sc_is_name : FnScope ["value", "letter"] ["value"] (defScope s_is_name) := ⟨rfl, rfl, rfl, by decide +kernel, rfl, by decide +kernel, by decide +kernel⟩
theorem in_letters (c : Nat) : decide (c ∈ ("abcdefghijklmnopqrstuvwxyz" : Str).cps.toList) = decide (97 ≤ c ∧ c ≤ 122) := by
  have e : ("abcdefghijklmnopqrstuvwxyz" : Str).cps.toList = [97, 98, 99, 100, 101, 102, 103, 104, 105, 106, 107, 108, 109, 110, 111, 112, 113, 114, 115, 116, 117, 118, 119, 120, 121, 122] := by decide +kernel
  rw [e, Bool.eq_iff_iff]
  simp
  omega
theorem all_letters (l : List Nat) : ((l.map fun c => decide (97 ≤ c ∧ c ≤ 122)).all id) = decide (∀ c ∈ l, 97 ≤ c ∧ c ≤ 122) := by
  rw [Bool.eq_iff_iff, decide_eq_true_iff, List.all_map]
  simp
theorem ok_is_name {f : Addr} {fd : FuncData} (F : Fun K "is_name" "is_name" s_is_name f fd) (B : Blt mg) {t1 t2 : Tok} (G_LETTERS : mg "LETTERS" = some (.str "abcdefghijklmnopqrstuvwxyz" t1)) (G_LONGEST_NAME : mg "LONGEST_NAME" = some (.int 8 t2)) : FnOk P w K mg base CX0 1 f fd ["value"] sp_is_name := by
  refine F.ok sc_is_name (fun vs H Q E h => ?_) (fun cdv A outer s H vs Q E hr h => ?_)
  · obtain ⟨n, rfl, _⟩ := h
    rfl
  · obtain ⟨n, rfl, hl, k⟩ := h
    have nd := sc_is_name.nd
    refine ⟨_, (pss_cons (ps_if (PW.pt (pw_or (pt_not (pt_val (pe_callB call_isi (by rfl) B.isinstance (by decide +kernel) (pa_cons (pv 0) (pa_cons (pe_bltn (v := .ty "str") (u := .type "str") (by rfl) B.str (by decide +kernel) rfl) pa_nil))))) (pw_or1 (pt_not (pt_chain op_le op_le pe_int (pe_callB call_len_str (by rfl) B.len (by decide +kernel) (pa_cons (pv 0) pa_nil)) (pe_glob (v := .int 8) rfl G_LONGEST_NAME ⟨_, rfl⟩))))))
      (pss_one (ps_ret pe_bl))
      pss_nil)
    (pss_one (ps_ret (pe_callB (cr_all rfl) (by rfl) B.all (by decide +kernel) (pa_cons (pe_lc (own := [("letter", 1)]) (by rfl) nd (pi_str (pv 0)) (blkOk_by (N := ["value", "letter"]) (sc := defScope s_is_name) (own := [("letter", 1)]) (by decide +kernel)) (fun _ _ _ _ _ => (pg_name (i := 1) nd rfl (.inl rfl))) (fun _ _ _ _ _ => pts_nil) (fun _ _ _ _ _ => (pe_cmpR op_in_sign (pv 1) (pe_glob (v := .str "abcdefghijklmnopqrstuvwxyz") rfl G_LETTERS ⟨_, rfl⟩) rfl))) pa_nil))))), ?_⟩
    refine ⟨_, rfl, .str n, .ty "str", .type "str", .type "str", true, rfl, .ty _, .base (.str _), kit_ty (by decide +kernel), _, rfl, iteF ?_⟩
    refine ⟨_, rfl, n, rfl, sl_of (by omega), ?_⟩
    have no : ¬ (1 ≤ n.length ∧ n.length ≤ 8) → ∀ H', Same H H' → Q (.bl false) H' := fun z H' s' => by
      have q := k H' s'
      unfold nameOk at q
      rw [decide_eq_false z, Bool.false_and] at q
      exact q
    refine ⟨_, _, rfl, rfl, _, rfl, ite2 (fun h1 => ?_) fun h1 => ?_⟩
    · have h1 : (1 : Int) ≤ (n.length : Int) := of_decide_eq_true h1
      by_cases h8 : n.length ≤ 8
      · have e8 : decide (((n.length : Nat) : Int) ≤ 8) = true := decide_eq_true (by omega)
        refine ⟨_, _, rfl, rfl, _, rfl, ?_⟩
        rw [e8]
        refine iteF ?_
        dsimp only [tNext, tRet, tCB, tCons, tNil]
        refine lcSign (z := n) (fun c => decide (97 ≤ c ∧ c ≤ 122)) hl (fun R h => ⟨_, rfl, h⟩) (fun _ => rfl) (fun c H2 R h => ⟨_, rfl, c, _, rfl, rfl, by rw [in_letters]; exact h⟩) fun D H2 s2 nD hD => ?_
        refine ⟨D, _, rfl, SqL.of hD, ?_⟩
        rw [all_letters]
        have q := k H2 s2
        unfold nameOk at q
        rw [decide_eq_true (show 1 ≤ n.length ∧ n.length ≤ 8 by omega), Bool.true_and] at q
        exact q
      · have e8 : decide (((n.length : Nat) : Int) ≤ 8) = false := decide_eq_false (by omega)
        refine ⟨_, _, rfl, rfl, _, rfl, ?_⟩
        rw [e8]
        exact iteT (no (fun z => h8 z.2) H (Same.refl _))
    · refine ⟨_, rfl, iteT (no (fun z => h1 ?_) H (Same.refl _))⟩
      exact decide_eq_true (by omega)
theorem sc_compose : FnScope ["prime", "one", "other", "polynomial", "shift", "further", "distance"] ["prime", "one", "other"] (defScope s_compose) := ⟨rfl, rfl, rfl, by decide +kernel, rfl, by decide +kernel, by decide +kernel⟩
theorem ok_compose {f : Addr} {fd : FuncData} (F : Fun K "compose" "compose" s_compose f fd) (B : Blt mg) (C_add : Cal P w K mg base 3 "add" (sp_add K)) (C_move : Cal P w K mg base 1 "move" (sp_move K)) : FnOk P w K mg base CX0 4 f fd ["prime", "one", "other"] (sp_compose K) := by
  refine F.ok sc_compose (fun vs H Q E h => ?_) (fun cdv A outer s H vs Q E hr h => ?_)
  · obtain ⟨p, v1, v2, f, g, m, n, rfl, _⟩ := h
    rfl
  · obtain ⟨p, v1, v2, f, g, m, n, rfl, hp, ⟨a, x, rfl, hs, hx⟩, ⟨b, y, rfl, ht, hy⟩, hl, k⟩ := h
    have nd := sc_compose.nd
    refine ⟨_, (pss_cons (ps_asg (pv 1) (pg_tup rfl (pgs_cons (pg_name (i := 3) nd rfl (.inl rfl)) (pgs_cons (pg_name (i := 4) nd rfl (.inl rfl)) pgs_nil))))
    (pss_cons (ps_asg (pv 2) (pg_tup rfl (pgs_cons (pg_name (i := 5) nd rfl (.inl rfl)) (pgs_cons (pg_name (i := 6) nd rfl (.inl rfl)) pgs_nil))))
    (pss_one (ps_ret (pe_tup (pa_cons (pe_c C_add hr (by decide) (by rfl) (pa_cons (pv 0) (pa_cons (pv 3) (pa_cons (pe_c C_move hr (by decide) (by rfl) (pa_cons (pv 5) (pa_cons (pv 4) pa_nil))) pa_nil)))) (pa_cons (pe_op op_add (pv 4) (pv 6)) pa_nil))))))), ?_⟩
    refine ⟨_, rfl, a, _, rfl, hs, rfl, _, _, rfl, _, _, rfl, rfl, ?_⟩
    refine ⟨_, rfl, b, _, rfl, ht, rfl, _, _, rfl, _, _, rfl, rfl, ?_⟩
    refine ⟨_, rfl, _, rfl, _, rfl, _, rfl, y, g, m, rfl, hy, by omega, fun u H1 s1 h1 => ?_⟩
    refine ⟨p, x, u, f, moved m g, rfl, hp, hx.tp (Same.tp s1), h1, by rw [moved_len]; exact hl, fun u2 H2 r s2 h2 N => ?_⟩
    refine ⟨_, rfl, _, rfl, m, n, rfl, rfl, sl_of (show 2 ≤ 1000000 by decide), fun q nq => ?_⟩
    exact k _ _ r ((s1.trans s2).trans (same_new nq)) ⟨q, u2, rfl, SqT.of upd_same, h2.tp (tp_new nq)⟩ (N.to fun e => by rw [cf_moved])
theorem sc_apply : FnScope ["prime", "effect", "dials", "place", "polynomial", "shift", "turned"] ["prime", "effect", "dials", "place"] (defScope s_apply) := ⟨rfl, rfl, rfl, by decide +kernel, rfl, by decide +kernel, by decide +kernel⟩
theorem prs_itemsA {H : Hp} : ∀ {ts : List Addr} {m : Pol}, Paired (fun (t : Addr) (q : Key × V) => H t = some (.tup [kV q.1, q.2])) ts (kvOf m) → Prs K H (ts.map V.ref) m
  | [], [], _ => .nil
  | t :: ts, u :: m, h => by
    cases h with
    | cons h1 h2 => exact .cons ⟨t, rfl, SqT.of h1⟩ (prs_itemsA h2)
theorem ok_apply {f : Addr} {fd : FuncData} (F : Fun K "apply" "apply" s_apply f fd) (B : Blt mg) (C_normalize : Cal P w K mg base 2 "normalize" (sp_normalizeP K)) (C_move : Cal P w K mg base 1 "move" (sp_move K)) : FnOk P w K mg base CX0 3 f fd ["prime", "effect", "dials", "place"] (sp_apply K) := by
  refine F.ok sc_apply (fun vs H Q E h => ?_) (fun cdv A outer s H vs Q E hr h => ?_)
  · obtain ⟨p, v, f, m, d, mm, pl, rfl, _⟩ := h
    rfl
  · obtain ⟨p, v, f, m, d, mm, pl, rfl, hp, ⟨a, x, rfl, ha, tf⟩, hd, hn, l1, l2, k⟩ := h
    have nd := sc_apply.nd
    refine ⟨_, (pss_cons (ps_asg (pv 1) (pg_tup rfl (pgs_cons (pg_name (i := 4) nd rfl (.inl rfl)) (pgs_cons (pg_name (i := 5) nd rfl (.inl rfl)) pgs_nil))))
    (pss_cons (ps_set (i := 6) nd rfl (.inl rfl) (pe_c C_normalize hr (by decide) (by rfl) (pa_cons (pv 0) (pa_cons (pe_op op_cat (LiI.pe_listItems rfl (pv 2) (by rfl) B.list (by decide +kernel)) (pe_callTy call_list_of (by rfl) B.list (by decide +kernel) (pa_cons (pe_c C_move hr (by decide) (by rfl) (pa_cons (pv 4) (pa_cons (pv 3) pa_nil))) pa_nil))) pa_nil))))
    (pss_one (ps_ret (pe_tup (pa_cons (pe_callTy (call_dictT rfl) (by rfl) B.dict (by decide +kernel) (pa_cons (pv 6) pa_nil)) (pa_cons (pe_op op_add (pv 3) (pv 5)) pa_nil))))))), ?_⟩
    refine ⟨_, rfl, a, _, rfl, ha, rfl, _, _, rfl, _, _, rfl, rfl, ?_⟩
    refine ⟨_, rfl, _, rfl, d, kvOf mm, rfl, hd, fun H1 l ts s1 nl nts nlts hl hP => ?_⟩
    have s1 : Same H H1 := s1
    refine ⟨_, rfl, _, rfl, x, f, pl, rfl, tf.tp (Same.tp s1), by omega, fun u H2 s2 t2 => ?_⟩
    have t20 := t2
    obtain ⟨b, ys, rfl, hb, hQ⟩ := t2
    refine ⟨b, ys, rfl, .inr hb, fun j nj => ?_⟩
    have s3 := same_new nj (o := HO.lst ys)
    have hl3 := s3 _ _ (s2 _ _ hl)
    have hml : (moved pl f).length = f.length := List.length_map _
    have hy : ys.length = f.length := by rw [hQ.len, hml]
    have ht : ts.length = mm.length := by
      have := (prs_itemsA (K := K) hP).len
      rwa [List.length_map] at this
    refine ⟨l, j, _, _, rfl, rfl, hl3, upd_same, sl_of (by rw [List.length_map, hy, ht]; omega), fun o no => ?_⟩
    have s4 := same_new no (o := HO.lst (ts.map V.ref ++ ys))
    have P1 : Prs K _ (ts.map V.ref) mm := Prs.tp (Same.tp (s2.trans (s3.trans s4))) (prs_itemsA hP)
    have P2 : Prs K _ ys (moved pl f) := Prs.tp (Same.tp (s3.trans s4)) hQ
    refine ⟨p, _, mm ++ moved pl f, rfl, hp, .inr ⟨o, _, rfl, SqL.of upd_same, Prs.app P1 P2⟩, by rw [List.length_append, hml]; omega, fun u H5 g s5 tg hN => ?_⟩
    have S5 := s1.trans (s2.trans (s3.trans (s4.trans s5)))
    have fresh : ∀ {c : Addr}, H5 c = none → H c = none := fun {c} e => by
      cases q : H c with
      | none => rfl
      | some o =>
        rw [S5 _ _ q] at e
        cases e
    obtain ⟨ta, tob, tps, rfl, ht1, ht2, ht3⟩ := tg.parts
    refine ⟨_, rfl, ta, tob, tps, kvOf g, rfl, ht1, ht2, ht3, fun e ne => ?_⟩
    rw [merge_kv hN.nodup]
    have s6 := same_new ne (o := HO.dK (kvOf g))
    refine ⟨_, rfl, _, rfl, _, _, rfl, rfl, sl_of (show 2 ≤ 1000000 by decide), fun t nt => ?_⟩
    have s7 := same_new nt (o := HO.tup [V.ref e, V.int (pl + m)])
    have nte : t ≠ e := fun z => by
      rw [z, upd_same] at nt
      cases nt
    refine k t e _ g (S5.trans (s6.trans s7)) (fresh ?_) (fresh ne) nte (SqT.of upd_same) (s7 _ _ upd_same) (hN.to fun x => ?_)
    · rw [upd_ne nte] at nt
      exact nt
    · rw [cf_append, cf_moved]
theorem sc__law_pen : FnScope ["_law_script"] ["_law_script"] (defScope s__law_pen) := ⟨rfl, rfl, rfl, by decide +kernel, rfl, by decide +kernel, by decide +kernel⟩
theorem ok__law_pen {f : Addr} {fd : FuncData} (F : Fun K "_law_pen" "_law_pen" s__law_pen f fd) (B : Blt mg) : FnOk P w K mg base CX0 1 f fd ["_law_script"] (sp__law_pen K) := by
  refine F.ok sc__law_pen (fun vs H Q E h => ?_) (fun cdv A outer s H vs Q E hr h => ?_)
  · obtain ⟨a, ns, rfl, _⟩ := h
    rfl
  · obtain ⟨a, ns, rfl, hS, k⟩ := h
    have nd := sc__law_pen.nd
    refine ⟨_, (pss_one (ps_ret (pe_disp (pps_cons pe_str (pe_callTy call_list_of (by rfl) B.list (by decide +kernel) (pa_cons (pe_slice sl_list (pv 0) po_none (po_some pe_int)) pa_nil)) (pps_cons pe_str pe_int (pps_cons pe_str pe_int pps_nil))) (by rfl) (by rfl) (fun z => by cases z) (by decide)))), ?_⟩
    intro p np
    have s1 : Same H (upd H p (.dK [])) := same_new np
    refine ⟨_, rfl, 63, rfl, a, _, rfl, s1.seq hS, fun q nq => ?_⟩
    have nqp : p ≠ q := ne_of_none upd_same nq
    refine ⟨q, _, rfl, .inl (SqL.of upd_same), fun c nc => ?_⟩
    have npc : p ≠ c := ne_of_none (show upd (upd H p (.dK [])) q _ p = some (.dK []) by rw [upd_ne nqp, upd_same]) nc
    have s2 : Same H (upd (upd H p (.dK [])) q (.lst (cutV (ns.map V.int) none (some 63)))) := s1.trans (same_new nq)
    refine ⟨?_, penKv c 0 0, rfl, by show 3 ≤ 15; decide, ?_⟩
    · rw [upd_ne npc, upd_ne nqp, upd_same]
    · rw [pen_merge]
      obtain ⟨ms, hms⟩ : ∃ ms : List Int, cutV (ns.map V.int) none (some 63) = ms.map V.int := by
        unfold cutV
        rw [← List.map_drop, ← List.map_take]
        exact ⟨_, rfl⟩
      refine k p c _ np (same_mut (s2.trans (same_new nc)) np) ⟨ms, 0, 0, upd_same, ?_, by omega, by omega⟩
      rw [upd_ne npc.symm, upd_same, hms]
theorem sc__law_draw : FnScope ["_law_pen_here", "_law_many", "_law_digit", "_law_used", "_law_cell", "_law_blend"] ["_law_pen_here", "_law_many"] (defScope s__law_draw) := ⟨rfl, rfl, rfl, by decide +kernel, rfl, by decide +kernel, by decide +kernel⟩
theorem ints_shaped (ns : List Int) : SeqAt.shaped (.list (ns.map PyData.int)) = true := by
  have : PyData.canLayAll0 (ns.map PyData.int) = true ∧ PyData.depthAll (ns.map PyData.int) = 0 := by
    induction ns with
    | nil => exact ⟨rfl, rfl⟩
    | cons n r ih =>
      refine ⟨?_, ?_⟩
      · show (true && PyData.canLayAll0 (r.map PyData.int)) = true
        rw [ih.1]
        rfl
      · show max 0 (PyData.depthAll (r.map PyData.int)) = 0
        rw [ih.2]
        rfl
  show (PyData.canLayAll0 (ns.map PyData.int) && decide (PyData.depthAll (ns.map PyData.int) + 1 ≤ 64)) = true
  rw [this.1, this.2]
  rfl
theorem ints_dpAll {H : Hp} : ∀ ns : List Int, DpAll K H (ns.map V.int) (ns.map PyData.int)
  | [] => .nil
  | n :: r => .cons (.int n) (ints_dpAll r)
theorem dg_left {H : Hp} {p c : Addr} {u l : Int} (h : H p = some (.dK (penKv c u l))) : DGet H p (.str "left") (some (.int l)) := by
  have := DGet.k (k := (Sum.inr ("left" : Str) : Key)) h
  rw [pen_left] at this
  exact this
theorem dg_used {H : Hp} {p c : Addr} {u l : Int} (h : H p = some (.dK (penKv c u l))) : DGet H p (.str "used") (some (.int u)) := by
  have := DGet.k (k := (Sum.inr ("used" : Str) : Key)) h
  rw [pen_used] at this
  exact this
theorem dg_cells {H : Hp} {p c : Addr} {u l : Int} (h : H p = some (.dK (penKv c u l))) : DGet H p (.str "cells") (some (.ref c)) := by
  have := DGet.k (k := (Sum.inr ("cells" : Str) : Key)) h
  rw [pen_cells] at this
  exact this
theorem dp_left {H : Hp} {p c : Addr} {u l : Int} (x : Int) (h : H p = some (.dK (penKv c u l))) : DPut H p (.str "left") (.int x) (upd H p (.dK (penKv c u x))) := by
  have := DPut.k (k := (Sum.inr ("left" : Str) : Key)) (v := .int x) h (sl_lt (show 3 ≤ 1000000 by decide))
  rw [pen_setL] at this
  exact this
theorem dp_used {H : Hp} {p c : Addr} {u l : Int} (x : Int) (h : H p = some (.dK (penKv c u l))) : DPut H p (.str "used") (.int x) (upd H p (.dK (penKv c x l))) := by
  have := DPut.k (k := (Sum.inr ("used" : Str) : Key)) (v := .int x) h (sl_lt (show 3 ≤ 1000000 by decide))
  rw [pen_setU] at this
  exact this
theorem atI_mod {ns : List Int} (u : Int) (h : 0 < ns.length) : ∃ z, atI (ns.map V.int) (u % ((ns.map V.int).length : Int)) = some (.int z) := by
  rw [List.length_map]
  have h1 := Int.emod_nonneg u (show (ns.length : Int) ≠ 0 by omega)
  have h2 := Int.emod_lt_of_pos u (show (0 : Int) < (ns.length : Int) by omega)
  obtain ⟨j, hj⟩ : ∃ j : Nat, u % (ns.length : Int) = (j : Int) := ⟨(u % (ns.length : Int)).toNat, by omega⟩
  rw [hj]
  have hlt : j < ns.length := by omega
  refine ⟨ns[j], atI_nat ?_⟩
  rw [List.getElem?_map, List.getElem?_eq_getElem hlt]
  rfl
theorem cm_197 (x j : Int) : CMul (x % 4294967197) j := .inl ⟨by have := Int.emod_nonneg x (show (4294967197 : Int) ≠ 0 by decide); omega, by have := Int.emod_lt_of_pos x (show (0 : Int) < 4294967197 by decide); omega⟩
theorem cm_189 (x j : Int) : CMul (x % 4294967189) j := .inl ⟨by have := Int.emod_nonneg x (show (4294967189 : Int) ≠ 0 by decide); omega, by have := Int.emod_lt_of_pos x (show (0 : Int) < 4294967189 by decide); omega⟩
theorem ok__law_draw {f : Addr} {fd : FuncData} (F : Fun K "_law_draw" "_law_draw" s__law_draw f fd) (B : Blt mg) : FnOk P w K mg base CX0 1 f fd ["_law_pen_here", "_law_many"] sp__law_draw := by
  refine F.ok sc__law_draw (fun vs H Q E h => ?_) (fun cdv A outer s H vs Q E hr h => ?_)
  · obtain ⟨p, c, many, n, rfl, _⟩ := h
    rfl
  · obtain ⟨p, c, many, n, rfl, hm, hm2, ⟨ns, u, l, h1, h2, hu0, hun⟩, hn, k⟩ := h
    have hu := hu_of hr
    have hu2 := hr.units
    have nd := sc__law_draw.nd
    have npc : p ≠ c := ne_of h1 h2 (by intro z; cases z)
    refine ⟨_, (pss_cons (ps_if (pt_cmpR op_gt (pe_dget hu (pv 0) pe_str (fun _ _ => rfl)) pe_int (nomark _))
      (pss_cons (ps_set (i := 2) nd rfl (.inl rfl) (pe_op op_mod (pe_dget hu (pv 0) pe_str (fun _ _ => rfl)) (pv 1)))
    (pss_cons (ps_dput hu (pv 0) pe_str (pe_op op_fdivW (pe_dget hu (pv 0) pe_str (fun _ _ => rfl)) (pv 1)) rfl)
    (pss_one (ps_ret (pv 2)))))
      pss_nil)
    (pss_cons (ps_set (i := 3) nd rfl (.inl rfl) (pe_dget hu (pv 0) pe_str (fun _ _ => rfl)))
    (pss_cons (ps_dput hu (pv 0) pe_str (pe_op op_add (pv 3) pe_int) rfl)
    (pss_cons (ps_set (i := 4) nd rfl (.inl rfl) (pe_op op_add (pe_op op_mul pe_int (pv 3)) pe_int))
    (pss_cons (ps_if (pt_cmpR (op_neD hu2) (pe_dget hu (pv 0) pe_str (fun _ _ => rfl)) (pe_lst pa_nil) (nomark _))
      (pss_one (ps_set (i := 4) nd rfl (.inl rfl) (pe_ix ix_list (pe_dget hu (pv 0) pe_str (fun _ _ => rfl)) (pe_op op_mod (pv 3) (pe_callB call_len_seq (by rfl) B.len (by decide +kernel) (pa_cons (pe_dget hu (pv 0) pe_str (fun _ _ => rfl)) pa_nil))) (fun _ _ => rfl))))
      pss_nil)
    (pss_cons (ps_if (PW.pt (pw_and (pt_cmpR op_lt (pv 3) (pe_callB call_len_seq (by rfl) B.len (by decide +kernel) (pa_cons (pe_dget hu (pv 0) pe_str (fun _ _ => rfl)) pa_nil)) (nomark _)) (pw_and1 (pt_cmpR op_ge (pe_callB call_abs (by rfl) B.abs (by decide +kernel) (pa_cons (pv 4) pa_nil)) (pe_op op_pow pe_int pe_int) (nomark _)))))
      (pss_cons (ps_dput hu (pv 0) pe_str (pe_op op_fdivW (pe_op op_sub (pe_callB call_abs (by rfl) B.abs (by decide +kernel) (pa_cons (pv 4) pa_nil)) (pe_op op_pow pe_int pe_int)) (pv 1)) rfl)
    (pss_one (ps_ret (pe_op op_mod (pe_op op_sub (pe_callB call_abs (by rfl) B.abs (by decide +kernel) (pa_cons (pv 4) pa_nil)) (pe_op op_pow pe_int pe_int)) (pv 1)))))
      pss_nil)
    (pss_cons (ps_set (i := 5) nd rfl (.inl rfl) (pe_op op_add (pe_op op_mul (pe_op op_mod (pv 4) pe_int) pe_int) (pe_op op_mul (pe_op op_mul pe_int (pv 3)) (pv 3))))
    (pss_cons (ps_set (i := 5) nd rfl (.inl rfl) (pe_op op_mod (pe_op op_add (pe_op op_add (pv 5) (pe_op op_mul pe_int (pv 3))) pe_int) pe_int))
    (pss_cons (ps_set (i := 5) nd rfl (.inl rfl) (pe_op op_mod (pe_op op_add (pe_op op_add (pe_op op_add (pe_op op_mul (pv 5) (pv 5)) (pe_op op_mul pe_int (pv 5))) (pe_op op_mul pe_int (pv 3))) pe_int) pe_int))
    (pss_one (ps_ret (pe_op op_mod (pe_op op_fdiv (pe_op op_mod (pe_op op_mul (pv 5) (pe_op op_add (pv 5) pe_int)) pe_int) pe_int) (pv 1))))))))))))), ?_⟩
    have wd : ∀ i : Int, CDivW i many := fun i => wide_div hm hm2 (by decide) (by decide)
    have rng : ∀ i : Int, 0 ≤ i % many ∧ i % many < many := fun i => ⟨Int.emod_nonneg i (by omega), Int.emod_lt_of_pos i hm⟩
    refine ⟨_, rfl, p, _, rfl, dg_left h1, _, _, rfl, rfl, _, rfl, ?_⟩
    refine ite2 (fun _ => ?_) (fun _ => ?_)
    · refine ⟨_, rfl, p, _, rfl, dg_left h1, _, rfl, l, many, rfl, rfl, hm, ?_⟩
      refine ⟨_, rfl, p, _, rfl, dg_left h1, _, rfl, l, many, rfl, rfl, wd _, _, rfl, p, _, rfl, dp_left _ h1, _, rfl, ?_⟩
      exact k _ _ (rng l).1 (rng l).2 (Kp.refl p H).upd ⟨ns, u, _, upd_same, by rw [upd_ne npc.symm]; exact h2, hu0, by omega⟩
    · have g1 : upd H p (.dK (penKv c (u + 1) l)) p = some (.dK (penKv c (u + 1) l)) := upd_same
      have g2 : upd H p (.dK (penKv c (u + 1) l)) c = some (.lst (ns.map V.int)) := by
        rw [upd_ne npc.symm]
        exact h2
      refine ⟨_, rfl, p, _, rfl, dg_used h1, _, rfl, u, 1, rfl, rfl, _, rfl, p, _, rfl, dp_used (u + 1) h1, ?_⟩
      refine ⟨_, rfl, 29, u, rfl, rfl, .inl ⟨by decide, by decide⟩, _, 11, rfl, rfl, ?_⟩
      refine ⟨_, rfl, p, _, rfl, dg_cells g1, Nat.zero_le _, fun q nq => ?_⟩
      have e1 : upd (upd H p (.dK (penKv c (u + 1) l))) q (.lst []) p = some (.dK (penKv c (u + 1) l)) := by
        rw [upd_ne (ne_of_none g1 nq)]
        exact g1
      have e2 : upd (upd H p (.dK (penKv c (u + 1) l))) q (.lst []) c = some (.lst (ns.map V.int)) := by
        rw [upd_ne (ne_of_none g2 nq)]
        exact g2
      have kq : Kp p H (upd (upd H p (.dK (penKv c (u + 1) l))) q (.lst [])) := (Kp.refl p H).upd.trans (Same.kp (same_new nq))
      have e3 : upd (upd H p (.dK (penKv c (u + 1) l))) q (.lst []) q = some (.lst []) := upd_same
      generalize upd (upd H p (.dK (penKv c (u + 1) l))) q (.lst []) = H1 at e1 e2 e3 kq ⊢
      have hpos : (!PyData.eqv (.list (ns.map PyData.int)) (.list [])) = true → 0 < ns.length := by
        cases ns with
        | nil => exact fun z => absurd z (by decide)
        | cons _ _ => exact fun _ => Nat.succ_pos _
      refine ⟨.list (ns.map PyData.int), .list [], .lst (SqL.of e2) (ints_dpAll ns), .lst (SqL.of e3) .nil, ints_shaped ns, ints_shaped [], _, rfl, ?_⟩
      refine ite2 (fun z => ?_) (fun _ => ?_)
      · obtain ⟨v, hv⟩ := atI_mod u (hpos z)
        refine ⟨_, rfl, p, _, rfl, dg_cells e1, _, rfl, _, rfl, p, _, rfl, dg_cells e1, c, _, rfl, .inl (SqL.of e2), u, _, rfl, rfl, (by rw [List.length_map]; have := hpos z; omega), c, _, _, _, rfl, rfl, SqL.of e2, hv, ?_⟩
        generalize v = cell
        refine ⟨_, rfl, _, rfl, p, _, rfl, dg_cells e1, c, _, rfl, .inl (SqL.of e2), u, _, rfl, rfl, _, rfl, ?_⟩
        refine ite2 (fun _ => ?_) (fun _ => ?_)
        · refine ⟨_, rfl, cell, rfl, 10, 18, rfl, rfl, ⟨by decide, by decide, by decide⟩, _, _, rfl, rfl, _, rfl, ?_⟩
          refine ite2 (fun _ => ?_) (fun _ => ?_)
          · refine ⟨_, rfl, cell, rfl, 10, 18, rfl, rfl, ⟨by decide, by decide, by decide⟩, _, _, rfl, rfl, _, rfl, _, many, rfl, rfl, wd _, _, rfl, p, _, rfl, dp_left _ e1, ?_⟩
            refine ⟨_, rfl, cell, rfl, 10, 18, rfl, rfl, ⟨by decide, by decide, by decide⟩, _, _, rfl, rfl, _, rfl, _, many, rfl, rfl, hm, ?_⟩
            exact k _ _ (rng _).1 (rng _).2 kq.upd ⟨ns, u + 1, _, upd_same, by rw [upd_ne npc.symm]; exact e2, by omega, by omega⟩
          · refine ⟨_, rfl, cell, 4294967231, rfl, rfl, (show (0 : Int) < 4294967231 by decide), _, 1664525, rfl, rfl, .inr ⟨by decide, by decide⟩, _, rfl, 24593, u, rfl, rfl, .inl ⟨by decide, by decide⟩, _, rfl, 24593 * u, u, rfl, rfl, .inr ⟨by omega, by omega⟩, _, _, rfl, rfl, ?_⟩
            refine ⟨_, rfl, _, rfl, 196613, u, rfl, rfl, .inl ⟨by decide, by decide⟩, _, _, rfl, rfl, _, 19, rfl, rfl, _, _, rfl, rfl, (show (0 : Int) < 4294967197 by decide), ?_⟩
            refine ⟨_, rfl, _, rfl, _, _, rfl, rfl, cm_197 _ _, _, rfl, 12582917, _, rfl, rfl, .inl ⟨by decide, by decide⟩, _, _, rfl, rfl, _, rfl, 7, u, rfl, rfl, .inl ⟨by decide, by decide⟩, _, _, rfl, rfl, _, 3, rfl, rfl, _, _, rfl, rfl, (show (0 : Int) < 4294967189 by decide), ?_⟩
            refine ⟨_, rfl, _, rfl, _, 25165843, rfl, rfl, _, _, rfl, rfl, cm_189 _ _, _, _, rfl, rfl, (show (0 : Int) < 4294967291 by decide), _, 64, rfl, rfl, ⟨by decide, by decide⟩, _, rfl, _, many, rfl, rfl, hm, ?_⟩
            exact k _ _ (rng _).1 (rng _).2 kq ⟨ns, u + 1, _, e1, e2, by omega, by omega⟩
        · refine iteF ?_
          refine ⟨_, rfl, cell, 4294967231, rfl, rfl, (show (0 : Int) < 4294967231 by decide), _, 1664525, rfl, rfl, .inr ⟨by decide, by decide⟩, _, rfl, 24593, u, rfl, rfl, .inl ⟨by decide, by decide⟩, _, rfl, 24593 * u, u, rfl, rfl, .inr ⟨by omega, by omega⟩, _, _, rfl, rfl, ?_⟩
          refine ⟨_, rfl, _, rfl, 196613, u, rfl, rfl, .inl ⟨by decide, by decide⟩, _, _, rfl, rfl, _, 19, rfl, rfl, _, _, rfl, rfl, (show (0 : Int) < 4294967197 by decide), ?_⟩
          refine ⟨_, rfl, _, rfl, _, _, rfl, rfl, cm_197 _ _, _, rfl, 12582917, _, rfl, rfl, .inl ⟨by decide, by decide⟩, _, _, rfl, rfl, _, rfl, 7, u, rfl, rfl, .inl ⟨by decide, by decide⟩, _, _, rfl, rfl, _, 3, rfl, rfl, _, _, rfl, rfl, (show (0 : Int) < 4294967189 by decide), ?_⟩
          refine ⟨_, rfl, _, rfl, _, 25165843, rfl, rfl, _, _, rfl, rfl, cm_189 _ _, _, _, rfl, rfl, (show (0 : Int) < 4294967291 by decide), _, 64, rfl, rfl, ⟨by decide, by decide⟩, _, rfl, _, many, rfl, rfl, hm, ?_⟩
          exact k _ _ (rng _).1 (rng _).2 kq ⟨ns, u + 1, _, e1, e2, by omega, by omega⟩
      · refine ⟨_, rfl, _, rfl, p, _, rfl, dg_cells e1, c, _, rfl, .inl (SqL.of e2), u, _, rfl, rfl, _, rfl, ?_⟩
        refine ite2 (fun _ => ?_) (fun _ => ?_)
        · refine ⟨_, rfl, 29 * u + 11, rfl, 10, 18, rfl, rfl, ⟨by decide, by decide, by decide⟩, _, _, rfl, rfl, _, rfl, ?_⟩
          refine ite2 (fun _ => ?_) (fun _ => ?_)
          · refine ⟨_, rfl, 29 * u + 11, rfl, 10, 18, rfl, rfl, ⟨by decide, by decide, by decide⟩, _, _, rfl, rfl, _, rfl, _, many, rfl, rfl, wd _, _, rfl, p, _, rfl, dp_left _ e1, ?_⟩
            refine ⟨_, rfl, 29 * u + 11, rfl, 10, 18, rfl, rfl, ⟨by decide, by decide, by decide⟩, _, _, rfl, rfl, _, rfl, _, many, rfl, rfl, hm, ?_⟩
            exact k _ _ (rng _).1 (rng _).2 kq.upd ⟨ns, u + 1, _, upd_same, by rw [upd_ne npc.symm]; exact e2, by omega, by omega⟩
          · refine ⟨_, rfl, 29 * u + 11, 4294967231, rfl, rfl, (show (0 : Int) < 4294967231 by decide), _, 1664525, rfl, rfl, .inr ⟨by decide, by decide⟩, _, rfl, 24593, u, rfl, rfl, .inl ⟨by decide, by decide⟩, _, rfl, 24593 * u, u, rfl, rfl, .inr ⟨by omega, by omega⟩, _, _, rfl, rfl, ?_⟩
            refine ⟨_, rfl, _, rfl, 196613, u, rfl, rfl, .inl ⟨by decide, by decide⟩, _, _, rfl, rfl, _, 19, rfl, rfl, _, _, rfl, rfl, (show (0 : Int) < 4294967197 by decide), ?_⟩
            refine ⟨_, rfl, _, rfl, _, _, rfl, rfl, cm_197 _ _, _, rfl, 12582917, _, rfl, rfl, .inl ⟨by decide, by decide⟩, _, _, rfl, rfl, _, rfl, 7, u, rfl, rfl, .inl ⟨by decide, by decide⟩, _, _, rfl, rfl, _, 3, rfl, rfl, _, _, rfl, rfl, (show (0 : Int) < 4294967189 by decide), ?_⟩
            refine ⟨_, rfl, _, rfl, _, 25165843, rfl, rfl, _, _, rfl, rfl, cm_189 _ _, _, _, rfl, rfl, (show (0 : Int) < 4294967291 by decide), _, 64, rfl, rfl, ⟨by decide, by decide⟩, _, rfl, _, many, rfl, rfl, hm, ?_⟩
            exact k _ _ (rng _).1 (rng _).2 kq ⟨ns, u + 1, _, e1, e2, by omega, by omega⟩
        · refine iteF ?_
          refine ⟨_, rfl, 29 * u + 11, 4294967231, rfl, rfl, (show (0 : Int) < 4294967231 by decide), _, 1664525, rfl, rfl, .inr ⟨by decide, by decide⟩, _, rfl, 24593, u, rfl, rfl, .inl ⟨by decide, by decide⟩, _, rfl, 24593 * u, u, rfl, rfl, .inr ⟨by omega, by omega⟩, _, _, rfl, rfl, ?_⟩
          refine ⟨_, rfl, _, rfl, 196613, u, rfl, rfl, .inl ⟨by decide, by decide⟩, _, _, rfl, rfl, _, 19, rfl, rfl, _, _, rfl, rfl, (show (0 : Int) < 4294967197 by decide), ?_⟩
          refine ⟨_, rfl, _, rfl, _, _, rfl, rfl, cm_197 _ _, _, rfl, 12582917, _, rfl, rfl, .inl ⟨by decide, by decide⟩, _, _, rfl, rfl, _, rfl, 7, u, rfl, rfl, .inl ⟨by decide, by decide⟩, _, _, rfl, rfl, _, 3, rfl, rfl, _, _, rfl, rfl, (show (0 : Int) < 4294967189 by decide), ?_⟩
          refine ⟨_, rfl, _, rfl, _, 25165843, rfl, rfl, _, _, rfl, rfl, cm_189 _ _, _, _, rfl, rfl, (show (0 : Int) < 4294967291 by decide), _, 64, rfl, rfl, ⟨by decide, by decide⟩, _, rfl, _, many, rfl, rfl, hm, ?_⟩
          exact k _ _ (rng _).1 (rng _).2 kq ⟨ns, u + 1, _, e1, e2, by omega, by omega⟩
theorem sc__law_pick : FnScope ["_law_pen_here", "_law_options"] ["_law_pen_here", "_law_options"] (defScope s__law_pick) := ⟨rfl, rfl, rfl, by decide +kernel, rfl, by decide +kernel, by decide +kernel⟩
theorem ok__law_pick {f : Addr} {fd : FuncData} (F : Fun K "_law_pick" "_law_pick" s__law_pick f fd) (B : Blt mg) (C__law_draw : Cal P w K mg base 1 "_law_draw" sp__law_draw) : FnOk P w K mg base CX0 2 f fd ["_law_pen_here", "_law_options"] sp__law_pick := by
  refine F.ok sc__law_pick (fun vs H Q E h => ?_) (fun cdv A outer s H vs Q E hr h => ?_)
  · obtain ⟨p, c, o, n, xs, rfl, _⟩ := h
    rfl
  · obtain ⟨p, c, o, n, xs, rfl, pen, hn, ho, hx, hx2, k⟩ := h
    have nd := sc__law_pick.nd
    refine ⟨_, (pss_one (ps_ret (pe_ix ix_list (pv 1) (pe_c C__law_draw hr (by decide) (by rfl) (pa_cons (pv 0) (pa_cons (pe_callB call_len_seq (by rfl) B.len (by decide +kernel) (pa_cons (pv 1) pa_nil)) pa_nil))) (fun _ _ => rfl)))), ?_⟩
    have nop : o ≠ p := pen.dict.elim fun _ e => ne_of ho e (by intro z; cases z)
    refine ⟨_, rfl, _, rfl, _, rfl, o, xs, rfl, .inl (SqL.of ho), p, c, (xs.length : Int), n, rfl, by omega, ?_, pen, hn, fun r H1 h0 h9 kp pen1 => ?_⟩
    · exact Nat.lt_of_le_of_lt (show ((xs.length : Int)).natAbs ≤ 100000 by omega) (by decide)
    · obtain ⟨j, rfl⟩ : ∃ j : Nat, r = (j : Int) := ⟨r.toNat, by omega⟩
      have hj : j < xs.length := by omega
      refine ⟨o, xs, (j : Int), xs[j], rfl, rfl, SqL.of (kp _ _ nop ho), atI_nat (List.getElem?_eq_getElem hj), ?_⟩
      exact k _ _ (List.getElem_mem hj) kp pen1
theorem sc__law_prime : FnScope ["_law_pen_here", "_law_found", "_law_larger"] ["_law_pen_here"] (defScope s__law_prime) := ⟨rfl, rfl, rfl, by decide +kernel, rfl, by decide +kernel, by decide +kernel⟩
theorem pick_p1 : ∀ q ∈ ([2, 2, 3, 3, 5, 7, 2, 3, 5, 11, 13, 97] : List Int), q ∈ primes := by decide
theorem pick_p2 : ∀ q ∈ ([13, 17, 19, 23, 29, 31, 37, 41, 43, 47, 53, 59, 61, 67, 71, 73, 79, 83, 89] : List Int), q ∈ primes := by decide
theorem ok__law_prime {f : Addr} {fd : FuncData} (F : Fun K "_law_prime" "_law_prime" s__law_prime f fd) (B : Blt mg) (C__law_pick : Cal P w K mg base 2 "_law_pick" sp__law_pick) : FnOk P w K mg base CX0 3 f fd ["_law_pen_here"] sp__law_prime := by
  refine F.ok sc__law_prime (fun vs H Q E h => ?_) (fun cdv A outer s H vs Q E hr h => ?_)
  · obtain ⟨p, c, n, rfl, _⟩ := h
    rfl
  · obtain ⟨p, c, n, rfl, pen, hn, k⟩ := h
    have nd := sc__law_prime.nd
    refine ⟨_, (pss_cons (ps_set (i := 1) nd rfl (.inl rfl) (pe_c C__law_pick hr (by decide) (by rfl) (pa_cons (pv 0) (pa_cons (pe_lst (pa_cons pe_int (pa_cons pe_int (pa_cons pe_int (pa_cons pe_int (pa_cons pe_int (pa_cons pe_int (pa_cons pe_int (pa_cons pe_int (pa_cons pe_int (pa_cons pe_int (pa_cons pe_int (pa_cons pe_int pa_nil))))))))))))) pa_nil))))
    (pss_cons (ps_set (i := 2) nd rfl (.inl rfl) (pe_lst (pa_cons pe_int (pa_cons pe_int (pa_cons pe_int (pa_cons pe_int (pa_cons pe_int (pa_cons pe_int (pa_cons pe_int (pa_cons pe_int (pa_cons pe_int (pa_cons pe_int (pa_cons pe_int (pa_cons pe_int (pa_cons pe_int (pa_cons pe_int (pa_cons pe_int (pa_cons pe_int (pa_cons pe_int (pa_cons pe_int (pa_cons pe_int pa_nil)))))))))))))))))))))
    (pss_one (ps_ret (pe_ifExp (pt_cmpR op_eq (pv 1) pe_int (nomark _)) (pe_c C__law_pick hr (by decide) (by rfl) (pa_cons (pv 0) (pa_cons (pv 2) pa_nil))) (pv 1)))))), ?_⟩
    refine ⟨_, rfl, sl_of (show 12 ≤ 1000000 by decide), fun o no => ?_⟩
    refine ⟨p, c, o, n, ([2, 2, 3, 3, 5, 7, 2, 3, 5, 11, 13, 97] : List Int).map V.int, rfl, pen.same (same_new no), by omega, upd_same, by decide, by decide, fun v H1 hv kp pen1 => ?_⟩
    obtain ⟨q, hq, rfl⟩ := List.mem_map.mp hv
    refine ⟨sl_of (show 19 ≤ 1000000 by decide), fun o2 no2 => ?_⟩
    have kp2 : Kp p H (upd H1 o2 (.lst (([13, 17, 19, 23, 29, 31, 37, 41, 43, 47, 53, 59, 61, 67, 71, 73, 79, 83, 89] : List Int).map V.int))) := (Same.kp (same_new no)).trans (kp.trans (Same.kp (same_new no2)))
    refine ⟨_, rfl, rfl, _, rfl, ?_⟩
    refine ite2 (fun _ => ?_) (fun _ => ?_)
    · refine ⟨_, rfl, _, rfl, p, c, o2, n + 1, ([13, 17, 19, 23, 29, 31, 37, 41, 43, 47, 53, 59, 61, 67, 71, 73, 79, 83, 89] : List Int).map V.int, rfl, pen1.same (same_new no2), by omega, upd_same, by decide, by decide, fun v H2 hv2 kp3 pen2 => ?_⟩
      obtain ⟨q2, hq2, rfl⟩ := List.mem_map.mp hv2
      exact k _ _ (pick_p2 _ hq2) (kp2.trans kp3) pen2
    · exact ⟨_, rfl, k _ _ (pick_p1 _ hq) kp2 ((pen1.same (same_new no2)).mono (by omega))⟩
theorem sc__law_integer : FnScope ["_law_pen_here", "_law_most"] ["_law_pen_here", "_law_most"] (defScope s__law_integer) := ⟨rfl, rfl, rfl, by decide +kernel, rfl, by decide +kernel, by decide +kernel⟩
theorem ten90 {m : Int} (h0 : 0 ≤ m) (h : m.natAbs < 10 ^ 90) : (2 * m + 1).natAbs < 2 ^ 400 := by
  have e : (2 * m + 1).natAbs = 2 * m.natAbs + 1 := by omega
  have h2 : 2 * 10 ^ 90 + 1 < 2 ^ 400 := by decide +kernel
  rw [e]
  omega
theorem ok__law_integer {f : Addr} {fd : FuncData} (F : Fun K "_law_integer" "_law_integer" s__law_integer f fd) (B : Blt mg) (C__law_draw : Cal P w K mg base 1 "_law_draw" sp__law_draw) : FnOk P w K mg base CX0 2 f fd ["_law_pen_here", "_law_most"] sp__law_integer := by
  refine F.ok sc__law_integer (fun vs H Q E h => ?_) (fun cdv A outer s H vs Q E hr h => ?_)
  · obtain ⟨p, c, m, n, rfl, _⟩ := h
    rfl
  · obtain ⟨p, c, m, n, rfl, hm, hm2, pen, hn, k⟩ := h
    have nd := sc__law_integer.nd
    refine ⟨_, (pss_one (ps_ret (pe_op op_sub (pe_c C__law_draw hr (by decide) (by rfl) (pa_cons (pv 0) (pa_cons (pe_op op_add (pe_op op_mul pe_int (pv 1)) pe_int) pa_nil))) (pv 1)))), ?_⟩
    refine ⟨_, rfl, _, rfl, 2, m, rfl, rfl, .inl ⟨by decide, by decide⟩, _, 1, rfl, rfl, p, c, 2 * m + 1, n, rfl, by omega, ten90 hm hm2, pen, hn, fun r H1 h0 h9 kp pen1 => ?_⟩
    exact ⟨_, rfl, r, m, rfl, rfl, k _ _ (by omega) kp pen1⟩
theorem sc__law_word : FnScope ["_law_pen_here", "_law_letters", "_law_k"] ["_law_pen_here"] (defScope s__law_word) := ⟨rfl, rfl, rfl, by decide +kernel, rfl, by decide +kernel, by decide +kernel⟩
theorem ok__law_word {f : Addr} {fd : FuncData} (F : Fun K "_law_word" "_law_word" s__law_word f fd) (B : Blt mg) (C__law_draw : Cal P w K mg base 1 "_law_draw" sp__law_draw) (C__law_pickS : Cal P w K mg base 2 "_law_pick" sp__law_pickS) : FnOk P w K mg base CX0 3 f fd ["_law_pen_here"] sp__law_word := by
  refine F.ok sc__law_word (fun vs H Q E h => ?_) (fun cdv A outer s H vs Q E hr h => ?_)
  · obtain ⟨p, c, n, rfl, _⟩ := h
    rfl
  · obtain ⟨p, c, n, rfl, pen, hn, k⟩ := h
    have nd := sc__law_word.nd
    refine ⟨_, (pss_cons (ps_set (i := 1) nd rfl (.inr rfl) pe_str)
    (pss_one (ps_ret (pe_join pe_str (pe_lc (own := [("_law_k", 2)]) (by rfl) nd (pi_range1 (by rfl) B.range (pa_cons (pe_op op_add pe_int (pe_c C__law_draw hr (by decide) (by rfl) (pa_cons (pv 0) (pa_cons pe_int pa_nil)))) pa_nil)) (blkOk_by (N := ["_law_pen_here", "_law_letters", "_law_k"]) (sc := defScope s__law_word) (own := [("_law_k", 2)]) (by decide +kernel)) (fun _ _ _ _ _ => (pg_name (i := 2) nd rfl (.inl rfl))) (fun _ _ _ _ _ => pts_nil) (fun _ _ _ _ _ => (pe_c C__law_pickS hr (by decide) (by rfl) (pa_cons (pv 0) (pa_cons (pv 1) pa_nil))))))))), ?_⟩
    dsimp only [tSeq, tAsg, tC, gName, tRet, tM1]
    refine ⟨⟨_, rfl⟩, ?_⟩
    refine lcPenL (p := p) (c := c) (n + 1) 1 One (fun N => 1 ≤ N ∧ N ≤ 8) (fun S g => ⟨_, rfl, p, c, 8, n, rfl, by decide, by decide, pen, by omega, fun r H1 r0 r8 k1 pen1 => ⟨1, r, rfl, rfl, ?_⟩⟩) (fun _ => rfl) (fun m H2 hm pen2 S g => ⟨_, rfl, _, rfl, p, c, _, _, rfl, pen2, by omega, by decide +kernel, by decide +kernel, fun i H3 hi k3 pen3 => g _ H3 (one_of (abc_mem i hi)) k3 (pen3.mono (by omega))⟩) fun N D H2 ns hN k2 pen2 hD hl hr => ?_
    · have e : (1 : Int) + r = ((r.toNat + 1 : Nat) : Int) := by omega
      show S [V.int (1 + r)] H1
      rw [e]
      exact g _ H1 ⟨by omega, by omega⟩ (by omega) k1 pen1
    · obtain ⟨e1, e2, e3⟩ := one_glue hr
      refine ⟨_, D, ns, rfl, rfl, .inl (SqL.of hD), by rw [e3, show ("" : Str).length = 0 from rfl]; omega, ?_⟩
      exact k _ H2 k2 (pen2.mono (by omega)) e2 (by omega) (by omega)
theorem sc__law_body : FnScope ["_law_pen_here", "_law_most", "_law_reach", "_law_found", "_law_k", "_law_word_here", "_law_most_count"] ["_law_pen_here", "_law_most", "_law_reach"] (defScope s__law_body) := ⟨rfl, rfl, rfl, by decide +kernel, rfl, by decide +kernel, by decide +kernel⟩
theorem ok__law_body {f : Addr} {fd : FuncData} (F : Fun K "_law_body" "_law_body" s__law_body f fd) (B : Blt mg) (C__law_draw : Cal P w K mg base 1 "_law_draw" sp__law_draw) (C__law_pick : Cal P w K mg base 2 "_law_pick" sp__law_pick) (C__law_integer : Cal P w K mg base 2 "_law_integer" sp__law_integer) : FnOk P w K mg base CX0 3 f fd ["_law_pen_here", "_law_most", "_law_reach"] (sp__law_bodyG K) := by
  refine F.ok sc__law_body (fun vs H Q E h => ?_) (fun cdv A outer s H vs Q E hr h => ?_)
  · obtain ⟨p, c, most, reach, n, rfl, _⟩ := h
    rfl
  · obtain ⟨p, cs, most, reach, n, rfl, hm, hm2, hre, hre2, pen, hn, k⟩ := h
    have nd := sc__law_body.nd
    refine ⟨_, (pss_cons (ps_set (i := 3) nd rfl (.inl rfl) (pe_lst pa_nil))
    (pss_cons (ps_for PassesOwn.never rfl (pi_range1 (by rfl) B.range (pa_cons (pe_c C__law_draw hr (by decide) (by rfl) (pa_cons (pv 0) (pa_cons (pe_op op_add (pv 1) pe_int) pa_nil))) pa_nil)) (pg_name (i := 4) nd rfl (.inl rfl))
      (pss_cons (ps_par (i := 5) (j := 6) (by rfl) nd rfl rfl (by decide) rfl rfl (pa_cons (pe_c C__law_pick hr (by decide) (by rfl) (pa_cons (pv 0) (pa_cons (pe_lst (pa_cons pe_str (pa_cons pe_str pa_nil))) pa_nil))) (pa_cons (pe_c C__law_pick hr (by decide) (by rfl) (pa_cons (pv 0) (pa_cons (pe_lst (pa_cons pe_int (pa_cons pe_int (pa_cons (pv 2) pa_nil)))) pa_nil))) pa_nil)) (by rfl))
    (pss_one (ps_expr (pe_bm PySem.F.plainAttrs_list PySem.F.slot_list_append PySem.F.type_list_append mt_append (pv 3) (pa_cons (pe_tup (pa_cons (pv 5) (pa_cons (pe_c C__law_integer hr (by decide) (by rfl) (pa_cons (pv 0) (pa_cons (pv 6) pa_nil))) pa_nil))) pa_nil))))))
    (pss_one (ps_ret (pv 3))))), ?_⟩
    refine ⟨Nat.zero_le _, fun D nD => ?_⟩
    have s1 : Same H (upd H D (.lst [])) := same_new nD
    have npD : D ≠ p := pen.np nD
    have ncD : D ≠ cs := pen.nc nD
    refine ⟨_, rfl, _, rfl, most, 1, rfl, rfl, p, cs, most + 1, n, rfl, by omega, Nat.lt_of_le_of_lt (show (most + 1).natAbs ≤ 1001 by omega) (by decide), pen.same s1, by omega, fun r H1 h0 h9 kp pen1 => ?_⟩
    have hD1 : H1 D = some (.lst []) := kp _ _ npD upd_same
    refine ⟨r, rfl, by omega, by omega, for_range (lo := 0) (n := r.toNat) (fun i σ H2 => ∃ (xs : List V) (b : List Ins) (y z u : Option V), σ = [some (.ref p), some (.int most), some (.int reach), some (.ref D), y, z, u] ∧ Kp p H H2 ∧ PenAt H2 p cs (n + 1 + 3 * i) ∧ H2 D = some (.lst xs) ∧ FIs K H2 xs b ∧ Flat b i (max reach.natAbs 3)) ?_ ?_ ?_⟩
    · exact ⟨[], [], none, none, none, rfl, (Same.kp s1).trans kp, pen1, hD1, .nil, Nat.le_refl _, fun i h => absurd h List.not_mem_nil, fun i h => absurd h List.not_mem_nil⟩
    · rintro i σ H2 hi ⟨xs, b, y, z, u, rfl, k2, pen2, hD2, hF, hfl⟩
      have hxl : xs.length ≤ i := by rw [hF.len]; exact hfl.len
      refine ⟨_, rfl, sl_of (show 2 ≤ 1000000 by decide), fun o1 no1 => ?_⟩
      have z1 := same_new no1 (o := HO.lst [V.str "step", V.str "turn"])
      refine ⟨p, cs, o1, _, _, rfl, pen2.same z1, by omega, upd_same, (show 0 < 2 by decide), (show 2 ≤ 100000 by decide), fun wd H3 hwd k3 pen3 => ?_⟩
      refine ⟨_, rfl, _, rfl, sl_of (show 3 ≤ 1000000 by decide), fun o2 no2 => ?_⟩
      have z2 := same_new no2 (o := HO.lst [V.int 1, V.int 3, V.int reach])
      refine ⟨p, cs, o2, _, _, rfl, pen3.same z2, by omega, upd_same, (show 0 < 3 by decide), (show 3 ≤ 100000 by decide), fun mv H4 hmv k4 pen4 => ?_⟩
      obtain ⟨mc, rfl, hmc0, hmc⟩ : ∃ mc : Int, mv = .int mc ∧ 0 ≤ mc ∧ mc.natAbs ≤ max reach.natAbs 3 := by
        rcases List.mem_cons.mp hmv with e | hmv
        · exact ⟨1, e, by decide, by show 1 ≤ _; omega⟩
        rcases List.mem_cons.mp hmv with e | hmv
        · exact ⟨3, e, by decide, by show 3 ≤ _; omega⟩
        rcases List.mem_cons.mp hmv with e | hmv
        · exact ⟨reach, e, hre, by omega⟩
        exact absurd hmv List.not_mem_nil
      refine ⟨_, _, rfl, ?_⟩
      have k24 : Kp p H2 H4 := (Same.kp z1).trans (k3.trans ((Same.kp z2).trans k4))
      have hD4 : H4 D = some (.lst xs) := k24 _ _ npD hD2
      have hmc9 : mc.natAbs < 10 ^ 90 := by
        rcases List.mem_cons.mp hmv with e | hmv
        · cases e; decide
        rcases List.mem_cons.mp hmv with e | hmv
        · cases e; decide
        rcases List.mem_cons.mp hmv with e | hmv
        · cases e; exact hre2
        exact absurd hmv List.not_mem_nil
      refine ⟨_, rfl, .inl ⟨rfl, _, SqL.of hD4⟩, _, rfl, _, rfl, _, rfl, p, cs, mc, _, rfl, hmc0, hmc9, pen4, by omega, fun ct H5 hct k5 pen5 => ?_⟩
      refine ⟨sl_of (show 2 ≤ 1000000 by decide), fun t nt => ?_⟩
      have hD5 : H5 D = some (.lst xs) := k5 _ _ npD hD4
      have z3 := same_new nt (o := HO.tup [wd, V.int ct])
      have hD6 := z3 _ _ hD5
      refine ⟨D, xs, _, rfl, rfl, hD6, sl_lt (by omega), ?_⟩
      have t2 : Tp (upd H5 t (HO.tup [wd, V.int ct])) (upd (upd H5 t (HO.tup [wd, V.int ct])) D (.lst (xs ++ [.ref t]))) := tp_lst hD6
      have k25 : Kp p H2 H5 := k24.trans k5
      obtain ⟨it, hit, hitf, hitc⟩ : ∃ it, FI K (upd H5 t (HO.tup [wd, V.int ct])) (.ref t) it ∧ isFlat it ∧ (cntOf it).natAbs ≤ max reach.natAbs 3 := by
        rcases List.mem_cons.mp hwd with e | hwd
        · subst e
          exact ⟨.step ct, .inl ⟨t, ct, rfl, SqT.of upd_same, rfl⟩, trivial, Nat.le_trans hct hmc⟩
        rcases List.mem_cons.mp hwd with e | hwd
        · subst e
          exact ⟨.turn ct, .inr ⟨t, ct, rfl, SqT.of upd_same, rfl⟩, trivial, Nat.le_trans hct hmc⟩
        exact absurd hwd List.not_mem_nil
      refine ⟨xs ++ [.ref t], b ++ [it], _, _, _, rfl, fun x o nx ex => ?_, ?_, upd_same, FIs.snoc (hF.tp ((pen2.tp k25).trans ((Same.tp z3).trans t2))) (hit.tp t2), ?_, fun j hj => ?_, fun j hj => ?_⟩
      · rw [upd_ne (ne_of_none ex nD)]
        have ex5 := k25 _ _ nx (k2 _ _ nx ex)
        rw [upd_ne (ne_of_none ex5 nt)]
        exact ex5
      · exact ((pen5.same z3).mono (by omega)).upd npD ncD
      · rw [List.length_append]
        have := hfl.len
        show b.length + 1 ≤ i + 1
        omega
      · rcases List.mem_append.mp hj with h | h
        · exact hfl.flat j h
        · cases List.mem_singleton.mp h
          exact hitf
      · rcases List.mem_append.mp hj with h | h
        · exact hfl.cnt j h
        · cases List.mem_singleton.mp h
          exact hitc
    · rintro σ H2 ⟨xs, b, y, z, u, rfl, k2, pen2, hD2, hF, hfl⟩
      exact ⟨_, rfl, k D xs b H2 nD k2 (pen2.mono (by omega)) hD2 hF ⟨Nat.le_trans hfl.len (by omega), hfl.flat, hfl.cnt⟩⟩
theorem sc__law_program : FnScope ["_law_pen_here", "_law_most", "_law_reach", "_law_rounds", "_law_found", "_law_left", "_law_k", "_law_inner", "_law_deeper"] ["_law_pen_here", "_law_most", "_law_reach", "_law_rounds"] (defScope s__law_program) := ⟨rfl, rfl, rfl, by decide +kernel, rfl, by decide +kernel, by decide +kernel⟩
theorem ok__law_program {f : Addr} {fd : FuncData} (F : Fun K "_law_program" "_law_program" s__law_program f fd) (B : Blt mg) (C__law_draw : Cal P w K mg base 1 "_law_draw" sp__law_draw) (C__law_body : Cal P w K mg base 3 "_law_body" (sp__law_bodyG K)) : FnOk P w K mg base CX0 4 f fd ["_law_pen_here", "_law_most", "_law_reach", "_law_rounds"] (sp__law_programM K) := by
  refine F.ok sc__law_program (fun vs H Q E h => ?_) (fun cdv A outer s H vs Q E hr h => ?_)
  · obtain ⟨p, c, most, reach, rounds, n, rfl, _⟩ := h
    rfl
  · obtain ⟨p, c, most, reach, rounds, n, rfl, hm, hm2, hre, hre2, hro, hro2, pen, hn, k⟩ := h
    have nd := sc__law_program.nd
    have hre9 : reach.natAbs < 10 ^ 90 := Nat.lt_of_le_of_lt (show reach.natAbs ≤ 10 ^ 30 by omega) (by decide +kernel)
    have hR : max reach.natAbs 3 ≤ 10 ^ 30 := by
      have : (3 : Nat) ≤ 10 ^ 30 := by decide +kernel
      omega
    have hro9 : (rounds + 1).natAbs < 2 ^ 400 := Nat.lt_of_le_of_lt (show (rounds + 1).natAbs ≤ 10 ^ 30 + 1 by omega) (by decide +kernel)
    have hrn : ∀ r : Int, 0 ≤ r → r < rounds + 1 → r.natAbs ≤ 2 ^ 100 := fun r h0 h9 => Nat.le_trans (show r.natAbs ≤ 10 ^ 30 by omega) (by decide +kernel)
    have hmn : most.toNat ≤ 50 := by omega
    refine ⟨_, (pss_cons (ps_par (i := 4) (j := 5) (by rfl) nd rfl rfl (by decide) rfl rfl (pa_cons (pe_c C__law_body hr (by decide) (by rfl) (pa_cons (pv 0) (pa_cons (pv 1) (pa_cons (pv 2) pa_nil)))) (pa_cons pe_int pa_nil)) (by rfl))
    (pss_cons (ps_for PassesOwn.never rfl (pi_range1 (by rfl) B.range (pa_cons (pe_c C__law_draw hr (by decide) (by rfl) (pa_cons (pv 0) (pa_cons pe_int pa_nil))) pa_nil)) (pg_name (i := 6) nd rfl (.inl rfl))
      (pss_cons (ps_set (i := 7) nd rfl (.inl rfl) (pe_c C__law_body hr (by decide) (by rfl) (pa_cons (pv 0) (pa_cons (pv 1) (pa_cons (pv 2) pa_nil)))))
    (pss_cons (ps_if (PW.pt (pw_and (pt_cmpR op_gt (pv 5) pe_int (nomark _)) (pw_and1 (pt_cmpR op_eq (pe_c C__law_draw hr (by decide) (by rfl) (pa_cons (pv 0) (pa_cons pe_int pa_nil))) pe_int (nomark _)))))
      (pss_cons (ps_set (i := 8) nd rfl (.inl rfl) (pe_tup (pa_cons pe_str (pa_cons (pe_c C__law_draw hr (by decide) (by rfl) (pa_cons (pv 0) (pa_cons (pe_op op_add (pv 3) pe_int) pa_nil))) (pa_cons (pe_c C__law_body hr (by decide) (by rfl) (pa_cons (pv 0) (pa_cons (pv 1) (pa_cons (pv 2) pa_nil)))) pa_nil)))))
    (pss_cons (ps_set (i := 7) nd rfl (.inl rfl) (pe_op op_cat (pe_op op_cat (pv 7) (pe_lst (pa_cons (pv 8) pa_nil))) (pe_c C__law_body hr (by decide) (by rfl) (pa_cons (pv 0) (pa_cons (pv 1) (pa_cons (pv 2) pa_nil))))))
    (pss_one (ps_set (i := 5) nd rfl (.inl rfl) (pe_op op_sub (pv 5) pe_int)))))
      pss_nil)
    (pss_one (ps_if (pt_cmpR op_gt (pv 5) pe_int (nomark _))
      (pss_cons (ps_set (i := 4) nd rfl (.inl rfl) (pe_op op_cat (pv 4) (pe_lst (pa_cons (pe_tup (pa_cons pe_str (pa_cons (pe_c C__law_draw hr (by decide) (by rfl) (pa_cons (pv 0) (pa_cons (pe_op op_add (pv 3) pe_int) pa_nil))) (pa_cons (pv 7) pa_nil)))) pa_nil))))
    (pss_cons (ps_set (i := 4) nd rfl (.inl rfl) (pe_op op_cat (pv 4) (pe_c C__law_body hr (by decide) (by rfl) (pa_cons (pv 0) (pa_cons (pv 1) (pa_cons (pv 2) pa_nil))))))
    (pss_one (ps_set (i := 5) nd rfl (.inl rfl) (pe_op op_sub (pv 5) pe_int)))))
      pss_nil)))))
    (pss_one (ps_ret (pv 4))))), ?_⟩
    refine ⟨_, rfl, _, rfl, _, rfl, p, c, most, reach, n, rfl, hm, by omega, hre, hre9, pen, by omega, fun D0 xs0 b0 H1 nD0 k1 pen1 hD0 hF0 fl0 => ?_⟩
    refine ⟨_, _, rfl, ?_⟩
    refine ⟨_, rfl, p, c, 4, _, rfl, by decide, by decide, pen1, by omega, fun r H2 r0 r9 k2 pen2 => ?_⟩
    obtain ⟨kv0, hp0⟩ := pen.dk
    have off : ∀ {a : Addr}, H a = none → ∀ ys, H a ≠ some (.lst ys) := fun e ys z => by
      rw [e] at z
      cases z
    have hE2 : IVs K (er H H2) xs0 b0 := (hF0.tp (er_tpk hp0 k1)).ivs.ek pen pen1 k2
    refine ⟨r, rfl, by omega, by omega, for_range (lo := 0) (n := r.toNat) (fun i σ H3 => ∃ (G : Addr) (xs : List V) (b : List Ins) (le : Int) (y7 y8 y9 : Option V), σ = [some (.ref p), some (.int most), some (.int reach), some (.int rounds), some (.ref G), some (.int le), y7, y8, y9] ∧ Kp p H H3 ∧ PenAt H3 p c (n + 152 + 607 * i) ∧ H3 G = some (.lst xs) ∧ H G = none ∧ IVs K (er H H3) xs b ∧ 0 ≤ le ∧ le ≤ 5 ∧ MidP b 2 (most.toNat + (4 * most.toNat + 2) * i) (5 - le).toNat) ?_ ?_ ?_⟩
    · exact ⟨D0, xs0, b0, 5, none, none, none, rfl, k1.trans k2, pen2.mono (by omega), kp_lst pen1 k2 hD0, nD0, hE2, by decide, by decide, (fl0.mid hR).up (by omega) (by omega) (by omega)⟩
    · rintro i σ H3 hi ⟨G, xs, b, le, y7, y8, y9, rfl, k3, pen3, hG, nG, hI, hle0, hle5, ok⟩
      refine ⟨_, rfl, _, rfl, _, rfl, p, c, most, reach, _, rfl, hm, by omega, hre, hre9, pen3, by omega, fun D1 xs1 b1 H4 nD1 k4 pen4 hD1 hF1 fl1 => ?_⟩
      have pen4 : PenAt H4 p c (n + 152 + 607 * i + 151) := pen4.mono (by omega)
      have hG4 := kp_lst pen3 k4 hG
      have hI4 := hI.ek pen pen3 k4
      have k04 := k3.trans k4
      have nD10 : H D1 = none := none_k k3 pen3.dk nD1
      have hE1 : IVs K (er H H4) xs1 b1 := (hF1.tp (er_tpk hp0 k04)).ivs
      have ok1 : MidP b1 0 most.toNat 0 := fl1.mid hR
      have l1 : xs1.length ≤ 1000 := by
        rw [hF1.len]
        have := fl1.len
        omega
      have lx : xs.length ≤ 1000 := by
        rw [hI.len]
        have h1 := len_cnP b
        have h2 := ok.gd.c
        have h3 : (4 * most.toNat + 2) * i ≤ 202 * 3 := Nat.mul_le_mul (by omega) (by omega)
        have : i < 4 := by omega
        omega
      -- what follows the inner body is made
      refine ⟨_, rfl, le, 1, rfl, rfl, _, rfl, ite2 (fun hgt => ?_) fun _ => ?_⟩
      all_goals try have hgt := of_decide_eq_true hgt
      · refine ⟨_, rfl, p, c, 2, _, rfl, by decide, by decide, pen4, by omega, fun r2 H5 _ _ k5 pen5 => ?_⟩
        have hG5 := kp_lst pen4 k5 hG4
        have hI5 := hI4.ek pen pen4 k5
        have hD5 := kp_lst pen4 k5 hD1
        have hE5 := hE1.ek pen pen4 k5
        refine ⟨rfl, _, rfl, ite2 (fun _ => ?_) fun _ => ?_⟩
        · refine ⟨_, rfl, _, rfl, rounds, 1, rfl, rfl, p, c, rounds + 1, _, rfl, by omega, hro9, pen5, by omega, fun n2 H6 n20 n29 k6 pen6 => ?_⟩
          refine ⟨_, rfl, _, rfl, _, rfl, p, c, most, reach, _, rfl, hm, by omega, hre, hre9, pen6, by omega, fun D6 xs6 b6 H7 nD6 k7 pen7 hD6 hF6 fl6 => ?_⟩
          refine ⟨sl_of (show 3 ≤ 1000000 by decide), fun t1 nt1 => ?_⟩
          have y1 := same_new nt1 (o := HO.tup [V.str "repeat", V.int n2, V.ref D6])
          refine ⟨_, rfl, _, rfl, sl_of (show 1 ≤ 1000000 by decide), fun l1 nl1 => ?_⟩
          have y2 := same_new nl1 (o := HO.lst [V.ref t1])
          have k57 : Kp p H5 H7 := k6.trans k7
          have k06 := k04.trans (k5.trans k6)
          have k07 := k06.trans k7
          have nD60 : H D6 = none := none_k k06 pen6.dk nD6
          have nt10 : H t1 = none := none_k k07 pen7.dk nt1
          have hE6 : IVs K (er H H7) xs6 b6 := (hF6.tp (er_tpk hp0 k07)).ivs
          have hD7 := (y1.trans y2) _ _ (kp_lst pen5 k57 hD5)
          refine ⟨D1, l1, _, _, rfl, rfl, hD7, upd_same, sl_of (show xs1.length + 1 ≤ 1000000 by omega), fun c1 nc1 => ?_⟩
          have y3 := same_new nc1 (o := HO.lst (xs1 ++ [V.ref t1]))
          have S7 := y1.trans (y2.trans y3)
          have pen8 := pen7.same S7
          have hD6' := S7 _ _ hD6
          have ht1 : IV K (er H _) (V.ref t1) (.rep n2 b6) := iv_rep (SqT.of (er_of ((y2.trans y3) _ _ (upd_same (H := H7) (o := HO.tup [V.str "repeat", V.int n2, V.ref D6]))) (off nt10))) (pv_list (SqL.of (er_of hD6' (off nD60))) (hE6.same (er_same S7)))
          have hJ8 := IVs.app ((hE5.ek pen pen5 k57).same (er_same S7)) (.cons ht1 .nil)
          refine ⟨_, rfl, _, rfl, _, rfl, p, c, most, reach, _, rfl, hm, by omega, hre, hre9, pen8, by omega, fun D8 xs8 b8 H8 nD8 k8 pen9 hD8 hF8 fl8 => ?_⟩
          have k08 := k07.trans ((Same.kp S7).trans k8)
          have hE8 : IVs K (er H H8) xs8 b8 := (hF8.tp (er_tpk hp0 k08)).ivs
          have l8 : xs8.length ≤ 1000 := by
            rw [hF8.len]
            have := fl8.len
            omega
          refine ⟨c1, D8, _, _, rfl, rfl, kp_lst pen8 k8 upd_same, hD8, sl_of (show (xs1 ++ [V.ref t1]).length + xs8.length ≤ 1000000 by rw [List.length_append]; show xs1.length + 1 + xs8.length ≤ 1000000; omega), fun c2 nc2 => ?_⟩
          have y4 := same_new nc2 (o := HO.lst ((xs1 ++ [V.ref t1]) ++ xs8))
          have k58 : Kp p H5 (upd H8 c2 (HO.lst ((xs1 ++ [V.ref t1]) ++ xs8))) := k57.trans ((Same.kp S7).trans (k8.trans (Same.kp y4)))
          have okJ : MidP ((b1 ++ [.rep n2 b6]) ++ b8) 1 (3 * most.toNat + 1) 1 := ((ok1.app ((fl6.mid hR).rep n20 (by omega))).app (fl8.mid hR)).up (by decide) (by omega) (by decide)
          have nD5 : H c2 = none := none_k k08 pen9.dk nc2
          have hJ5 := IVs.app ((hJ8.ek pen pen8 k8).same (er_same y4)) (hE8.same (er_same y4))
          have hG5 := kp_lst pen5 k58 hG5
          have hI5 := hI5.ek pen pen5 k58
          have k35 := k4.trans (k5.trans k58)
          have hD5 : (upd H8 c2 (HO.lst ((xs1 ++ [V.ref t1]) ++ xs8))) c2 = some (HO.lst ((xs1 ++ [V.ref t1]) ++ xs8)) := upd_same
          have pen5 := (pen9.same y4).mono (m := n + 152 + 607 * i + 151 + 1 + 1 + 151 + 151) (by omega)
          refine ⟨_, rfl, le, 1, rfl, rfl, ?_⟩
          refine ⟨_, rfl, _, 0, rfl, rfl, _, rfl, ite2 (fun hpos => ?_) fun hneg => ?_⟩
          all_goals try have hpos := of_decide_eq_true hpos
          · refine ⟨_, rfl, _, rfl, _, rfl, rounds, 1, rfl, rfl, p, c, rounds + 1, _, rfl, by omega, hro9, pen5, by omega, fun rr H6 rr0 rr9 k6 pen6 => ?_⟩
            refine ⟨_, rfl, sl_of (show 3 ≤ 1000000 by decide), fun t nt => ?_⟩
            have z1 := same_new nt (o := HO.tup [V.str "repeat", V.int rr, V.ref c2])
            refine ⟨sl_of (show 1 ≤ 1000000 by decide), fun l nl => ?_⟩
            have z2 := same_new nl (o := HO.lst [V.ref t])
            have hG6 := (z1.trans z2) _ _ (kp_lst pen5 k6 hG5)
            refine ⟨G, l, _, _, rfl, rfl, hG6, upd_same, sl_of (show xs.length + 1 ≤ 1000000 by omega), fun G2 nG2 => ?_⟩
            have z3 := same_new nG2 (o := HO.lst (xs ++ [V.ref t]))
            have S6 := z1.trans (z2.trans z3)
            have hJ6 := (hJ5.ek pen pen5 k6).same (er_same S6)
            have hD6 := S6 _ _ (kp_lst pen5 k6 hD5)
            have hI6 := (hI5.ek pen pen5 k6).same (er_same S6)
            have ntH : H t = none := none_k (k3.trans (k35.trans k6)) pen6.dk nt
            have ht6 : IV K (er H _) (V.ref t) (.rep rr ((b1 ++ [.rep n2 b6]) ++ b8)) := iv_rep (SqT.of (er_of ((z2.trans z3) _ _ (upd_same (H := H6) (o := HO.tup [V.str "repeat", V.int rr, V.ref c2]))) (off ntH))) (pv_list (SqL.of (er_of hD6 (off nD5))) hJ6)
            have hII := IVs.app hI6 (.cons ht6 .nil)
            have pen7 := pen6.same S6
            refine ⟨_, rfl, _, rfl, _, rfl, _, rfl, p, c, most, reach, _, rfl, hm, by omega, hre, hre9, pen7, by omega, fun D7 xs7 b7 H7 _ k7 pen8 hD7 hF7 fl7 => ?_⟩
            have l7 : xs7.length ≤ 1000 := by
              rw [hF7.len]
              have := fl7.len
              omega
            refine ⟨G2, D7, _, _, rfl, rfl, kp_lst pen7 k7 upd_same, hD7, sl_of (show (xs ++ [V.ref t]).length + xs7.length ≤ 1000000 by rw [List.length_append]; show xs.length + 1 + xs7.length ≤ 1000000; omega), fun G3 nG3 => ?_⟩
            have z4 := same_new nG3 (o := HO.lst ((xs ++ [V.ref t]) ++ xs7))
            have kT7 := k3.trans (k35.trans (k6.trans ((Same.kp S6).trans k7)))
            have hE7 : IVs K (er H H7) xs7 b7 := (hF7.tp (er_tpk hp0 kT7)).ivs
            have nG30 : H G3 = none := none_k kT7 pen8.dk nG3
            refine ⟨_, rfl, _, 1, rfl, rfl, G3, _, _, _, _, _, _, rfl, k3.trans (k35.trans (k6.trans ((Same.kp S6).trans (k7.trans (Same.kp z4))))), (pen8.same z4).mono (by omega), upd_same, nG30, IVs.app ((hII.ek pen pen7 k7).same (er_same z4)) (hE7.same (er_same z4)), by omega, by omega, ?_⟩
            refine ((ok.app (okJ.rep rr0 (by omega))).app (fl7.mid hR)).up (by decide) (by rw [Nat.mul_add]; omega) (by omega)
          · exact ⟨G, xs, b, _, _, _, _, rfl, k3.trans k35, pen5.mono (by omega), hG5, nG, hI5, by omega, by omega, ok.up (Nat.le_refl _) (by rw [Nat.mul_add]; omega) (by omega)⟩
        · have okJ : MidP b1 1 (3 * most.toNat + 1) 0 := ok1.up (by decide) (by omega) (by decide)
          have hJ5 := hE5
          have nD5 := nD10
          have k35 := k4.trans k5
          refine ⟨_, rfl, _, 0, rfl, rfl, _, rfl, ite2 (fun hpos => ?_) fun hneg => ?_⟩
          all_goals try have hpos := of_decide_eq_true hpos
          · refine ⟨_, rfl, _, rfl, _, rfl, rounds, 1, rfl, rfl, p, c, rounds + 1, _, rfl, by omega, hro9, pen5, by omega, fun rr H6 rr0 rr9 k6 pen6 => ?_⟩
            refine ⟨_, rfl, sl_of (show 3 ≤ 1000000 by decide), fun t nt => ?_⟩
            have z1 := same_new nt (o := HO.tup [V.str "repeat", V.int rr, V.ref D1])
            refine ⟨sl_of (show 1 ≤ 1000000 by decide), fun l nl => ?_⟩
            have z2 := same_new nl (o := HO.lst [V.ref t])
            have hG6 := (z1.trans z2) _ _ (kp_lst pen5 k6 hG5)
            refine ⟨G, l, _, _, rfl, rfl, hG6, upd_same, sl_of (show xs.length + 1 ≤ 1000000 by omega), fun G2 nG2 => ?_⟩
            have z3 := same_new nG2 (o := HO.lst (xs ++ [V.ref t]))
            have S6 := z1.trans (z2.trans z3)
            have hJ6 := (hJ5.ek pen pen5 k6).same (er_same S6)
            have hD6 := S6 _ _ (kp_lst pen5 k6 hD5)
            have hI6 := (hI5.ek pen pen5 k6).same (er_same S6)
            have ntH : H t = none := none_k (k3.trans (k35.trans k6)) pen6.dk nt
            have ht6 : IV K (er H _) (V.ref t) (.rep rr b1) := iv_rep (SqT.of (er_of ((z2.trans z3) _ _ (upd_same (H := H6) (o := HO.tup [V.str "repeat", V.int rr, V.ref D1]))) (off ntH))) (pv_list (SqL.of (er_of hD6 (off nD5))) hJ6)
            have hII := IVs.app hI6 (.cons ht6 .nil)
            have pen7 := pen6.same S6
            refine ⟨_, rfl, _, rfl, _, rfl, _, rfl, p, c, most, reach, _, rfl, hm, by omega, hre, hre9, pen7, by omega, fun D7 xs7 b7 H7 _ k7 pen8 hD7 hF7 fl7 => ?_⟩
            have l7 : xs7.length ≤ 1000 := by
              rw [hF7.len]
              have := fl7.len
              omega
            refine ⟨G2, D7, _, _, rfl, rfl, kp_lst pen7 k7 upd_same, hD7, sl_of (show (xs ++ [V.ref t]).length + xs7.length ≤ 1000000 by rw [List.length_append]; show xs.length + 1 + xs7.length ≤ 1000000; omega), fun G3 nG3 => ?_⟩
            have z4 := same_new nG3 (o := HO.lst ((xs ++ [V.ref t]) ++ xs7))
            have kT7 := k3.trans (k35.trans (k6.trans ((Same.kp S6).trans k7)))
            have hE7 : IVs K (er H H7) xs7 b7 := (hF7.tp (er_tpk hp0 kT7)).ivs
            have nG30 : H G3 = none := none_k kT7 pen8.dk nG3
            refine ⟨_, rfl, _, 1, rfl, rfl, G3, _, _, _, _, _, _, rfl, k3.trans (k35.trans (k6.trans ((Same.kp S6).trans (k7.trans (Same.kp z4))))), (pen8.same z4).mono (by omega), upd_same, nG30, IVs.app ((hII.ek pen pen7 k7).same (er_same z4)) (hE7.same (er_same z4)), by omega, by omega, ?_⟩
            refine ((ok.app (okJ.rep rr0 (by omega))).app (fl7.mid hR)).up (by decide) (by rw [Nat.mul_add]; omega) (by omega)
          · exact ⟨G, xs, b, _, _, _, _, rfl, k3.trans k35, pen5.mono (by omega), hG5, nG, hI5, by omega, by omega, ok.up (Nat.le_refl _) (by rw [Nat.mul_add]; omega) (by omega)⟩
      · refine iteF ?_
        have okJ : MidP b1 1 (3 * most.toNat + 1) 0 := ok1.up (by decide) (by omega) (by decide)
        have hJ5 := hE1
        have nD5 := nD10
        have k35 := k4
        have hG5 := hG4
        have hI5 := hI4
        have hD5 := hD1
        have pen5 := pen4
        refine ⟨_, rfl, _, 0, rfl, rfl, _, rfl, ite2 (fun hpos => ?_) fun hneg => ?_⟩
        all_goals try have hpos := of_decide_eq_true hpos
        · refine ⟨_, rfl, _, rfl, _, rfl, rounds, 1, rfl, rfl, p, c, rounds + 1, _, rfl, by omega, hro9, pen5, by omega, fun rr H6 rr0 rr9 k6 pen6 => ?_⟩
          refine ⟨_, rfl, sl_of (show 3 ≤ 1000000 by decide), fun t nt => ?_⟩
          have z1 := same_new nt (o := HO.tup [V.str "repeat", V.int rr, V.ref D1])
          refine ⟨sl_of (show 1 ≤ 1000000 by decide), fun l nl => ?_⟩
          have z2 := same_new nl (o := HO.lst [V.ref t])
          have hG6 := (z1.trans z2) _ _ (kp_lst pen5 k6 hG5)
          refine ⟨G, l, _, _, rfl, rfl, hG6, upd_same, sl_of (show xs.length + 1 ≤ 1000000 by omega), fun G2 nG2 => ?_⟩
          have z3 := same_new nG2 (o := HO.lst (xs ++ [V.ref t]))
          have S6 := z1.trans (z2.trans z3)
          have hJ6 := (hJ5.ek pen pen5 k6).same (er_same S6)
          have hD6 := S6 _ _ (kp_lst pen5 k6 hD5)
          have hI6 := (hI5.ek pen pen5 k6).same (er_same S6)
          have ntH : H t = none := none_k (k3.trans (k35.trans k6)) pen6.dk nt
          have ht6 : IV K (er H _) (V.ref t) (.rep rr b1) := iv_rep (SqT.of (er_of ((z2.trans z3) _ _ (upd_same (H := H6) (o := HO.tup [V.str "repeat", V.int rr, V.ref D1]))) (off ntH))) (pv_list (SqL.of (er_of hD6 (off nD5))) hJ6)
          have hII := IVs.app hI6 (.cons ht6 .nil)
          have pen7 := pen6.same S6
          refine ⟨_, rfl, _, rfl, _, rfl, _, rfl, p, c, most, reach, _, rfl, hm, by omega, hre, hre9, pen7, by omega, fun D7 xs7 b7 H7 _ k7 pen8 hD7 hF7 fl7 => ?_⟩
          have l7 : xs7.length ≤ 1000 := by
            rw [hF7.len]
            have := fl7.len
            omega
          refine ⟨G2, D7, _, _, rfl, rfl, kp_lst pen7 k7 upd_same, hD7, sl_of (show (xs ++ [V.ref t]).length + xs7.length ≤ 1000000 by rw [List.length_append]; show xs.length + 1 + xs7.length ≤ 1000000; omega), fun G3 nG3 => ?_⟩
          have z4 := same_new nG3 (o := HO.lst ((xs ++ [V.ref t]) ++ xs7))
          have kT7 := k3.trans (k35.trans (k6.trans ((Same.kp S6).trans k7)))
          have hE7 : IVs K (er H H7) xs7 b7 := (hF7.tp (er_tpk hp0 kT7)).ivs
          have nG30 : H G3 = none := none_k kT7 pen8.dk nG3
          refine ⟨_, rfl, _, 1, rfl, rfl, G3, _, _, _, _, _, _, rfl, k3.trans (k4.trans (k6.trans ((Same.kp S6).trans (k7.trans (Same.kp z4))))), (pen8.same z4).mono (by omega), upd_same, nG30, IVs.app ((hII.ek pen pen7 k7).same (er_same z4)) (hE7.same (er_same z4)), by omega, by omega, ?_⟩
          refine ((ok.app (okJ.rep rr0 (by omega))).app (fl7.mid hR)).up (by decide) (by rw [Nat.mul_add]; omega) (by omega)
        · exact ⟨G, xs, b, _, _, _, _, rfl, k3.trans k4, pen5.mono (by omega), hG5, nG, hI5, by omega, by omega, ok.up (Nat.le_refl _) (by rw [Nat.mul_add]; omega) (by omega)⟩
    · rintro σ H3 ⟨G, xs, b, le, y7, y8, y9, rfl, k3, pen3, hG, nG, hI, hle0, hle5, ok⟩
      have : r.toNat ≤ 3 := by omega
      have h5 : (4 * most.toNat + 2) * r.toNat ≤ (4 * most.toNat + 2) * 3 := Nat.mul_le_mul_left _ this
      exact ⟨_, rfl, k G xs b H3 nG k3 (pen3.mono (by omega)) hG hI (ok.up (Nat.le_refl _) (by omega) (by omega))⟩
theorem sc__law_calls : FnScope ["_law_pen_here", "_law_many", "_law_found", "_law_base", "_law_k", "_law_letter"] ["_law_pen_here", "_law_many"] (defScope s__law_calls) := ⟨rfl, rfl, rfl, by decide +kernel, rfl, by decide +kernel, by decide +kernel⟩
theorem ok__law_calls {f : Addr} {fd : FuncData} (F : Fun K "_law_calls" "_law_calls" s__law_calls f fd) (B : Blt mg) (C__law_draw : Cal P w K mg base 1 "_law_draw" sp__law_draw) (C__law_pick : Cal P w K mg base 2 "_law_pick" sp__law_pick) (C__law_word : Cal P w K mg base 3 "_law_word" sp__law_word) : FnOk P w K mg base CX0 4 f fd ["_law_pen_here", "_law_many"] sp__law_calls := by
  refine F.ok sc__law_calls (fun vs H Q E h => ?_) (fun cdv A outer s H vs Q E hr h => ?_)
  · obtain ⟨p, c, many, n, rfl, _⟩ := h
    rfl
  · obtain ⟨p, c, many, n, rfl, m0, m7, pen, hn, k⟩ := h
    have nd := sc__law_calls.nd
    refine ⟨_, (pss_cons (ps_par (i := 2) (j := 3) (by rfl) nd rfl rfl (by decide) rfl rfl (pa_cons (pe_lst pa_nil) (pa_cons (pe_c C__law_word hr (by decide) (by rfl) (pa_cons (pv 0) pa_nil)) pa_nil)) (by rfl))
    (pss_cons (ps_for PassesOwn.never rfl (pi_range1 (by rfl) B.range (pa_cons (pv 1) pa_nil)) (pg_name (i := 4) nd rfl (.inl rfl))
      (pss_cons (ps_set (i := 5) nd rfl (.inl rfl) (pe_ix ix_str pe_str (pe_op op_add (pe_op op_mul (pe_c C__law_draw hr (by decide) (by rfl) (pa_cons (pv 0) (pa_cons pe_int pa_nil))) pe_int) (pv 4)) (fun _ _ => rfl)))
    (pss_one (ps_expr (pe_bm PySem.F.plainAttrs_list PySem.F.slot_list_append PySem.F.type_list_append mt_append (pv 2) (pa_cons (pe_op op_add_str (pe_c C__law_pick hr (by decide) (by rfl) (pa_cons (pv 0) (pa_cons (pe_lst (pa_cons (pe_slice sl_str (pv 3) po_none (po_some (pe_un un_neg pe_int))) (pa_cons (pe_slice sl_str (pv 3) po_none (po_some pe_int)) (pa_cons pe_str pa_nil)))) pa_nil))) (pv 5)) pa_nil))))))
    (pss_one (ps_ret (pv 2))))), ?_⟩
    refine ⟨Nat.zero_le _, fun D nD => ?_⟩
    have s1 := same_new nD (o := HO.lst [])
    have npD := pen.np nD
    have ncD := pen.nc nD
    refine ⟨_, rfl, p, c, n, rfl, pen.same s1, by omega, fun z H1 k1 pen1 zl z1 z8 => ?_⟩
    have hD1 := k1 _ _ npD (show (upd H D (.lst [])) D = some (.lst []) from upd_same)
    refine ⟨_, _, rfl, _, rfl, many, rfl, by omega, by omega, for_range (lo := 0) (n := many.toNat) (fun i σ H2 => ∃ (ns : List Str) (y4 y5 : Option V), σ = [some (.ref p), some (.int many), some (.ref D), some (.str z), y4, y5] ∧ Kp p H H2 ∧ PenAt H2 p c (n + 9 + 2 * i) ∧ H2 D = some (.lst (ns.map V.str)) ∧ ns.length = i ∧ ns.Nodup ∧ (∀ x ∈ ns, nameOk x = true) ∧ ∀ x ∈ ns, ∃ j, j < i ∧ Tail x j) ⟨[], none, none, rfl, (Same.kp s1).trans k1, pen1, hD1, rfl, List.nodup_nil, fun x h => absurd h List.not_mem_nil, fun x h => absurd h List.not_mem_nil⟩ ?_ ?_⟩
    · rintro i σ H2 hi ⟨ns, y4, y5, rfl, k2, pen2, hD2, hl, hnd, hok, htl⟩
      have hi7 : i < 7 := by omega
      refine ⟨_, rfl, p, c, 2, _, rfl, by decide, by decide, pen2, by omega, fun r H3 r0 r2 k3 pen3 => ?_⟩
      obtain ⟨d, rfl⟩ : ∃ d : Nat, r = (d : Int) := ⟨r.toNat, by omega⟩
      have hd2 : d < 2 := by omega
      refine ⟨(d : Int), 7, rfl, rfl, .inr (by decide), _, rfl, _, _, rfl, rfl, ?_⟩
      have e : (d : Int) * 7 + (0 + (i : Int)) = ((d * 7 + i : Nat) : Int) := by omega
      refine ⟨_, ((d * 7 + i : Nat) : Int), 97 + (d * 7 + i), rfl, by rw [← e], sl_of (by decide +kernel), atI_nat (abc_at _ (by omega)), ?_⟩
      refine ⟨_, rfl, .inl ⟨rfl, _, SqL.of (k3 _ _ npD hD2)⟩, _, rfl, _, rfl, ?_⟩
      refine ⟨1, rfl, _, rfl, z, rfl, sl_of (by omega), _, rfl, _, rfl, z, rfl, sl_of (by omega), sl_of (show 3 ≤ 1000000 by decide), fun o no => ?_⟩
      have z1' := same_new no (o := HO.lst [V.str (cutS z none (some (-1))), V.str (cutS z none (some 1)), V.str ""])
      refine ⟨p, c, o, _, _, rfl, pen3.same z1', by omega, upd_same, (show 0 < 3 by decide), (show 3 ≤ 100000 by decide), fun v H4 hv k4 pen4 => ?_⟩
      obtain ⟨pre, rfl, hpl, hp7⟩ : ∃ pre : Str, v = .str pre ∧ Ltr pre ∧ pre.length ≤ 7 := by
        rcases List.mem_cons.mp hv with e | hv
        · exact ⟨_, e, ltr_cut zl _ _, cut_end z8⟩
        rcases List.mem_cons.mp hv with e | hv
        · exact ⟨_, e, ltr_cut zl _ _, cut_one z8⟩
        · exact ⟨_, List.mem_singleton.mp hv, ltr_empty, by decide +kernel⟩
      have one := one_of (i := 97 + (d * 7 + i)) ⟨by omega, by omega⟩
      have hl1 := len_app pre ⟨#[97 + (d * 7 + i)]⟩
      rw [one.1] at hl1
      have hDD := k4 _ _ npD (z1' _ _ (k3 _ _ npD hD2))
      have new : Tail (pre ++ ⟨#[97 + (d * 7 + i)]⟩) i := ⟨TL.tl pre, d, hd2, by rw [TL.tl_append, tl_one, Nat.add_assoc]⟩
      refine ⟨_, rfl, pre, _, rfl, rfl, sl_of (by rw [one.1]; omega), D, _, _, rfl, rfl, hDD, sl_lt (by rw [List.length_map, hl]; omega), ?_⟩
      refine ⟨ns ++ [pre ++ ⟨#[97 + (d * 7 + i)]⟩], _, _, rfl, kp_mut (k2.trans (k3.trans ((Same.kp z1').trans k4))) nD, (pen4.upd npD ncD).mono (by omega), by rw [upd_same, List.map_append]; rfl, by rw [List.length_append, hl]; rfl, ?_, fun x hx => ?_, fun x hx => ?_⟩
      · refine List.nodup_append.mpr ⟨hnd, List.nodup_cons.mpr ⟨List.not_mem_nil, List.nodup_nil⟩, fun a ha b hb => ?_⟩
        rw [List.mem_singleton.mp hb]
        obtain ⟨j, hj, tj⟩ := htl a ha
        exact fun e => absurd (tj.ne (by omega) hi7 new e) (by omega)
      · rcases List.mem_append.mp hx with hx | hx
        · exact hok x hx
        · rw [List.mem_singleton.mp hx]
          exact nameOk_of (ltr_app hpl one.2) (by omega) (by omega)
      · rcases List.mem_append.mp hx with hx | hx
        · obtain ⟨j, hj, tj⟩ := htl x hx
          exact ⟨j, by omega, tj⟩
        · rw [List.mem_singleton.mp hx]
          exact ⟨i, by omega, new⟩
    · rintro σ H2 ⟨ns, y4, y5, rfl, k2, pen2, hD2, hl, hnd, hok, htl⟩
      exact ⟨_, rfl, k D ns H2 nD k2 (pen2.mono (by omega)) hD2 hl hnd hok⟩
theorem sc__law_act : FnScope ["_law_road", "_law_action"] ["_law_road", "_law_action"] (defScope s__law_act) := ⟨rfl, rfl, rfl, by decide +kernel, rfl, by decide +kernel, by decide +kernel⟩
theorem ok__law_act {C : Addr} {f : Addr} {fd : FuncData} (F : Fun K "_law_act" "_law_act" s__law_act f fd) (B : Blt mg) (T : ClRo K mg C) (M_enter : MetC CX0 P w K mg base C 3 "enter" (sp_enter K C)) (M_run : MetC CX0 P w K mg base C 8 "run" (sp_run K C)) : FnOk P w K mg base CX0 9 f fd ["_law_road", "_law_action"] (sp__law_act K C) := by
  refine F.ok sc__law_act (fun vs H Q E h => ?_) (fun cdv A outer s H vs Q E hr h => ?_)
  · obtain ⟨r, D, T0, p, q, as, bs, M, v, a, rfl, _⟩ := h
    rfl
  · obtain ⟨r, D, T0, p, q, as, bs, M, v, a, rfl, R, mok, hv, ok, few, k⟩ := h
    have nd := sc__law_act.nd
    obtain ⟨dx, hr0⟩ := R.ob
    refine ⟨_, (pss_one (ps_ret (pe_ifExp (pt_cmpR op_eq (pe_ix ix_tup (pv 1) pe_int (fun _ _ => rfl)) pe_str (nomark _)) (pe_meth (pv 0) T.cl M_enter.hm M_enter.ok (hr.mono (by decide)) M_enter.b .nil (E := E0) pass0 (pa_cons (pe_ix ix_tup (pv 1) pe_int (fun _ _ => rfl)) (pa_cons (pe_ix ix_tup (pv 1) pe_int (fun _ _ => rfl)) pa_nil))) (pe_meth (pv 0) T.cl M_run.hm M_run.ok (hr.mono (by decide)) M_run.b .nil (E := E0) pass0 (pa_cons (pe_ix ix_tup (pv 1) pe_int (fun _ _ => rfl)) (pa_cons (pe_ix ix_tup (pv 1) pe_int (fun _ _ => rfl)) pa_nil)))))), ?_⟩
    cases a with
    | enter n pl =>
      obtain ⟨t, rfl, ht⟩ := hv
      refine ⟨_, rfl, t, _, 0, _, rfl, rfl, ht, rfl, rfl, _, rfl, iteS rfl ?_⟩
      exact ⟨_, rfl, r, dx, _, rfl, hr0, ro_no _ _ _ (by decide +kernel), _, rfl, t, _, 1, _, rfl, rfl, ht, rfl, _, rfl, t, _, 2, _, rfl, rfl, ht, rfl, r, D, T0, p, q, as, bs, M, n, pl, rfl, R, mok, ok.1, ok.2.1, ok.2.2, few, k⟩
    | run n d b =>
      obtain ⟨t, u, rfl, ht, hd, hp⟩ := hv
      refine ⟨_, rfl, t, _, 0, _, rfl, rfl, ht, rfl, rfl, _, rfl, iteN (by decide +kernel) ?_⟩
      exact ⟨_, rfl, r, dx, _, rfl, hr0, ro_no _ _ _ (by decide +kernel), _, rfl, t, _, 1, _, rfl, rfl, ht, rfl, _, rfl, t, _, 2, _, rfl, rfl, ht, rfl, r, D, T0, p, q, as, bs, M, n, u, d, b, rfl, R, mok, ok.1, hd, hp, ok.2.1, few, k⟩
theorem sc__law_applied : FnScope ["_law_prime_here", "_law_actions", "_law_dials", "_law_spots", "_law_word_here", "_law_name", "_law_value"] ["_law_prime_here", "_law_actions"] (defScope s__law_applied) := ⟨rfl, rfl, rfl, by decide +kernel, rfl, by decide +kernel, by decide +kernel⟩
theorem ok__law_applied {f : Addr} {fd : FuncData} (F : Fun K "_law_applied" "_law_applied" s__law_applied f fd) (B : Blt mg) (C_apply : Cal P w K mg base 3 "apply" (sp_apply K)) (C_effect_of : Cal P w K mg base 4 "effect_of" (sp_effect_ofE K)) : FnOk P w K mg base CX0 5 f fd ["_law_prime_here", "_law_actions"] (sp__law_appliedR K) := by
  refine F.ok sc__law_applied (fun vs H Q E h => ?_) (fun cdv A0 outer s H vs Q E hr h => ?_)
  · obtain ⟨q, A, xs, as, rfl, _⟩ := h
    rfl
  · obtain ⟨q, A, xs, as, rfl, hq, hA, hX, lg, few, eff, go⟩ := h
    have nd := sc__law_applied.nd
    have hu := hu_of hr
    have hlen := hX.len
    refine ⟨_, (pss_cons (ps_par (i := 2) (j := 3) (by rfl) nd rfl rfl (by decide) rfl rfl (pa_cons pe_dnewK (pa_cons pe_dnewK pa_nil)) (by rfl))
    (pss_cons (ps_for PassesOwn.never rfl (pi_list (pv 1)) (pg_tup rfl (pgs_cons (pg_name (i := 4) nd rfl (.inl rfl)) (pgs_cons (pg_name (i := 5) nd rfl (.inl rfl)) (pgs_cons (pg_name (i := 6) nd rfl (.inl rfl)) pgs_nil))))
      (pss_one (ps_if (pt_cmpR op_eq (pv 4) pe_str (nomark _))
      (pss_one (ps_dput hu (pv 3) (pv 5) (pv 6) rfl))
      (pss_one (ps_asg (pe_c C_apply hr (by decide) (by rfl) (pa_cons (pv 0) (pa_cons (pe_c C_effect_of hr (by decide) (by rfl) (pa_cons (pv 0) (pa_cons (pv 6) pa_nil))) (pa_cons (pv 2) (pa_cons (pe_dget hu (pv 3) (pv 5) (fun _ _ => rfl)) pa_nil))))) (pg_tup rfl (pgs_cons (pg_name (i := 2) nd rfl (.inl rfl)) (pgs_cons (pg_sub (pv 3) (pv 5) (set_dict hu)) pgs_nil))))))))
    (pss_one (ps_ret (pe_tup (pa_cons (pv 2) (pa_cons (pv 3) pa_nil))))))), ?_⟩
    refine fun D nD => ?_
    have z1 := same_new nD (o := HO.dK [])
    refine fun S nS => ?_
    have z2 := same_new nS (o := HO.dK [])
    have DS : D ≠ S := ne_of_none upd_same nS
    have nS0 : H S = none := none_before z1 nS
    have z12 := z1.trans z2
    have hD2 := z2 _ _ (upd_same (H := H) (a := D) (o := HO.dK []))
    have hS2 : upd (upd H D (.dK [])) S (.dK []) S = some (.dK []) := upd_same
    generalize upd (upd H D (.dK [])) S (.dK []) = H2 at z12 hD2 hS2
    refine ⟨_, _, rfl, _, rfl, A, rfl, ⟨_, same_l z12 hA⟩, for_list (K := K) (a := A) (xs := xs) (fun j σ H3 => ∃ (D3 : Addr) (g : Pol) (y4 y5 y6 : Option V), σ = [some (.int q), some (.ref A), some (.ref D3), some (.ref S), y4, y5, y6] ∧ Same H H3 ∧ H D3 = none ∧ D3 ≠ S ∧ H3 D3 = some (.dK (kvOf g)) ∧ H3 S = some (.dK (stK (stO (as.take j)))) ∧ Nf q g (fun x => dlT 0 as j x) ∧ g.length ≤ 2500 * j) ?_ ?_ ?_ ?_⟩
    · exact ⟨D, [], none, none, none, rfl, z12, nD, DS, hD2, hS2, ⟨.nil, fun _ h => absurd h List.not_mem_nil, fun e => (Int.zero_emod q).symm⟩, Nat.zero_le _⟩
    · rintro j σ H3 _ ⟨D3, g, y4, y5, y6, _, s3, _⟩
      exact same_l s3 hA
    · rintro j x σ H3 hj ⟨D3, g, y4, y5, y6, rfl, s3, nD3, D3S, hD3, hS3, N3, l3⟩
      obtain ⟨a, ha, hxa⟩ := hX.get hj
      have hxa3 := hxa.same s3
      have jl : j < as.length := (List.getElem?_eq_some_iff.mp ha).1
      have step := lg j a ha
      obtain ⟨names, nodup⟩ := (lg.take j).names
      have next := stO_snoc ha
      have mlen : (stO (as.take j)).length ≤ 1000 := by
        have h1 : (stO (as.take j)).length = (namesOf (as.take j)).length := by rw [← names, List.length_map]
        have h2 : (namesOf (as.take j)).length ≤ (as.take j).length := List.length_filterMap_le _ _
        rw [List.length_take] at h2
        omega
      have SD3 : S ≠ D3 := fun z => D3S z.symm
      cases a with
      | enter n pl =>
        obtain ⟨t, rfl, ht⟩ := hxa3
        refine ⟨t, _, rfl, ht, rfl, _, _, rfl, _, _, rfl, _, _, rfl, rfl, ?_⟩
        refine ⟨_, rfl, rfl, _, rfl, iteS rfl ?_⟩
        refine ⟨_, rfl, _, rfl, _, rfl, S, _, rfl, DPut.k (k := (Sum.inr n : Key)) hS3 (by rw [stK_len]; exact sl_lt (by omega)), ?_⟩
        rw [stK_put nodup]
        exact ⟨D3, g, _, _, _, rfl, same_mut s3 nS0, nD3, D3S, by rw [upd_ne D3S]; exact hD3, by rw [upd_same, next]; rfl, ⟨N3.asc, N3.rng, fun x => by rw [N3.cof, dl_enter ha]⟩, by omega⟩
      | run n d b =>
        obtain ⟨t, u, rfl, ht, hd, hp⟩ := hxa3
        refine ⟨t, _, rfl, ht, rfl, _, _, rfl, _, _, rfl, _, _, rfl, rfl, ?_⟩
        have v_re : ¬ (V.str "run" = V.str "enter") := by decide +kernel
        have ef := eff n d b (List.mem_of_getElem? ha)
        obtain ⟨⟨z, hz⟩, _, _⟩ := step
        have get5 : valV (stK (stO (as.take j))) (Sum.inr n) = some (.int z) := by rw [stK_val, hz]; rfl
        refine ⟨_, rfl, rfl, _, rfl, iteN v_re ?_⟩
        refine ⟨_, rfl, _, rfl, _, rfl, q, u, b, rfl, hq, ⟨d, hd, hp⟩, ef.dp, ef.w, by have := len_cnP b; have := ef.few; omega, ef.nn, by have := ef.ex; omega, fun v H4 f4 s4 ht4 Nf4 l4 => ?_⟩
        have l4' : f4.length ≤ 2500 := by have := ef.ex; omega
        have hD4 := s4 _ _ hD3
        have hS4 := s4 _ _ hS3
        refine ⟨_, rfl, _, rfl, _, rfl, S, .int z, rfl, .inl ⟨_, (Sum.inr n : Key), .inl hS4, rfl, get5.symm⟩, q, v, f4, shP b, D3, g, z, rfl, hq, ht4, hD4, nf_nodup N3, by omega, by omega, fun t5 D5 H5 g5 s5 nt5 nD5 tD5 ht5 hD5 N5 => ?_⟩
        have hS5 := s5 _ _ hS4
        have D5S : D5 ≠ S := fun y => by
          rw [y, hS4] at nD5
          cases nD5
        refine ⟨t5, _, rfl, ht5, rfl, _, _, rfl, _, _, rfl, _, rfl, _, rfl, S, _, rfl, DPut.k (k := (Sum.inr n : Key)) hS5 (by rw [stK_len]; exact sl_lt (by omega)), rfl, ?_⟩
        rw [stK_put nodup]
        have l5 := cf_sum_len N5
        have N5' := nf_next N3 Nf4 N5
        exact ⟨D5, g5, _, _, _, rfl, same_mut (s3.trans (s4.trans s5)) nS0, none_before (s3.trans s4) nD5, D5S, by rw [upd_ne D5S]; exact hD5, by rw [upd_same, next, stStep, hz]; rfl, ⟨N5'.asc, N5'.rng, fun x => by rw [N5'.cof, dl_run ha hz]⟩, by omega⟩
    · rintro σ H3 ⟨D3, g, y4, y5, y6, rfl, s3, nD3, D3S, hD3, hS3, N3, l3⟩
      rw [hlen, List.take_length] at hS3
      rw [hlen] at N3 l3
      refine ⟨_, rfl, _, rfl, sl_of (show 2 ≤ 1000000 by decide), fun t nt => ?_⟩
      have st := same_new nt (o := HO.tup [V.ref D3, V.ref S])
      exact go t D3 S g _ (s3.trans st) (SqT.of upd_same) nD3 nS0 D3S (st _ _ hD3) (st _ _ hS3) N3 (by omega)
theorem sc_law : FnScope ["_law_script", "_law_pen_here", "_law_turn", "_law_prime_here", "_law_names", "_law_starts", "_law_runs", "_law_road", "_law_other", "_law_action", "_law_dials", "_law_spots", "_law_spot", "_law_first", "_law_second", "_law_joined", "_law_last", "_law_wrong", "_law_name", "_law_k"] ["_law_script"] (defScope s_law) := ⟨rfl, rfl, rfl, by decide +kernel, rfl, by decide +kernel, by decide +kernel⟩
theorem law_ok {C : Addr} {f cc Pt : Addr} {fd : FuncData} (F : FunC K "law" s_law f fd cc) (TB : LamX.TabB base mg cc Pt) (B : Blt mg) (C__law_pen : Cal P w K mg base 1 "_law_pen" (sp__law_pen K)) (C__law_draw : Cal P w K mg base 1 "_law_draw" sp__law_draw) (C__law_pick : Cal P w K mg base 2 "_law_pick" sp__law_pick) (C__law_prime : Cal P w K mg base 3 "_law_prime" sp__law_prime) (C__law_integer : Cal P w K mg base 2 "_law_integer" sp__law_integer) (C__law_body : Cal P w K mg base 3 "_law_body" (sp__law_bodyG K)) (C__law_program : Cal P w K mg base 4 "_law_program" (sp__law_programM K)) (C__law_calls : Cal P w K mg base 4 "_law_calls" sp__law_calls) (C__law_act : Cal P w K mg base 9 "_law_act" (sp__law_act K C)) (C__law_applied : Cal P w K mg base 5 "_law_applied" (sp__law_appliedR K)) (C_compose : Cal P w K mg base 4 "compose" (sp_compose K)) (C_effect_of : Cal P w K mg base 4 "effect_of" (sp_effect_ofE K)) (C_apply : Cal P w K mg base 3 "apply" (sp_apply K))
    (T : ClRo K mg C) (MK_Road : MkF P w K mg base "Road" C 1 (sp_road C)) (M_run : MetC CX0 P w K mg base C 8 "run" (sp_run K C)) (N_dial : MetD CX0 P w K mg base C 8 "dial" [.non] (sp_dial K C)) (N_places : MetD CX0 P w K mg base C 8 "places" [.non] (sp_places K C)) : Kept P w K mg base f fd ["_law_script"] (sp_lawT Pt K) := by
  refine kept_ofC (k := 12) F sc_law (fun vs H Q E h => ?_) ⟨rfl, by decide, by decide⟩ (fun s H vs Q E hr h => ?_)
  · obtain ⟨a, ns, rfl, _⟩ := h
    rfl
  · obtain ⟨a, ns, rfl, hP, hS, hlen, k⟩ := h
    have nd := sc_law.nd
    have hu := hu_of hr
    have hu2 := hr.units
    have hu1 : (callerA.deeper (envOfC "law" (defScope s_law) s.heap.objs.size f (.ref cc))).units < cLine := by
      have := hr.un
      omega
    have hTq : ∀ p ∈ [(Pt, ("law.<locals>." : Str) ++ "<lambda>")], p.1 = Pt → p.2 = ("law.<locals>." : Str) ++ "<lambda>" := fun p hp _ => by
      rw [List.mem_singleton.mp hp]
    refine ⟨_, (pss_cons (ps_set (i := 1) nd rfl (.inr rfl) (pe_c C__law_pen hr (by decide) (by rfl) (pa_cons (pv 0) pa_nil)))
    (pss_cons (ps_for PassesOwn.never rfl (pi_range1 (by rfl) B.range (pa_cons pe_int pa_nil)) (pg_name (i := 2) nd rfl (.inl rfl))
      (pss_cons (ps_asg (pe_tup (pa_cons (pe_c C__law_prime hr (by decide) (by rfl) (pa_cons (pv 1) pa_nil)) (pa_cons (pe_c C__law_calls hr (by decide) (by rfl) (pa_cons (pv 1) (pa_cons pe_int pa_nil))) pa_nil))) (pg_tup rfl (pgs_cons (pg_name (i := 3) nd rfl (.inl rfl)) (pgs_cons (pg_name (i := 4) nd rfl (.inr rfl)) pgs_nil))))
    (pss_cons (ps_cut (ps_setLc (i := 5) (own := [("_law_name", 18)]) (by rfl) nd rfl rfl (sw_true rfl rfl rfl (by decide +kernel)) (pi_list (pv 4)) (blkOk_by (N := ["_law_script", "_law_pen_here", "_law_turn", "_law_prime_here", "_law_names", "_law_starts", "_law_runs", "_law_road", "_law_other", "_law_action", "_law_dials", "_law_spots", "_law_spot", "_law_first", "_law_second", "_law_joined", "_law_last", "_law_wrong", "_law_name", "_law_k"]) (sc := defScope s_law) (own := [("_law_name", 18)]) (by decide +kernel)) (fun _ _ _ _ _ => (pg_name (i := 18) nd rfl (.inl rfl))) (fun _ _ _ _ _ => pts_nil) (fun _ _ _ _ _ => (pe_tup (pa_cons pe_str (pa_cons (pv 18) (pa_cons (pe_c C__law_integer hr (by decide) (by rfl) (pa_cons (pv 1) (pa_cons pe_int pa_nil))) pa_nil)))))))
    (pss_cons (ps_cut (ps_setLc (i := 6) (own := [("_law_k", 19)]) (by rfl) nd rfl rfl (sw_true rfl rfl rfl (by decide +kernel)) (pi_range1 (by rfl) B.range (pa_cons (pe_op op_add pe_int (pe_c C__law_draw hr (by decide) (by rfl) (pa_cons (pv 1) (pa_cons pe_int pa_nil)))) pa_nil)) (blkOk_by (N := ["_law_script", "_law_pen_here", "_law_turn", "_law_prime_here", "_law_names", "_law_starts", "_law_runs", "_law_road", "_law_other", "_law_action", "_law_dials", "_law_spots", "_law_spot", "_law_first", "_law_second", "_law_joined", "_law_last", "_law_wrong", "_law_name", "_law_k"]) (sc := defScope s_law) (own := [("_law_k", 19)]) (by decide +kernel)) (fun _ _ _ _ _ => (pg_name (i := 19) nd rfl (.inl rfl))) (fun _ _ _ _ _ => pts_nil) (fun _ _ _ _ _ => (pe_tup (pa_cons pe_str (pa_cons (pe_c C__law_pick hr (by decide) (by rfl) (pa_cons (pv 1) (pa_cons (pv 4) pa_nil))) (pa_cons (pe_c C__law_program hr (by decide) (by rfl) (pa_cons (pv 1) (pa_cons pe_int (pa_cons pe_int (pa_cons pe_int pa_nil))))) pa_nil)))))))
    (pss_cons (ps_cut (ps_asg (pe_tup (pa_cons (pe_mk_ MK_Road hr (by decide) (by rfl) (pa_cons (pv 3) pa_nil)) (pa_cons (pe_mk_ MK_Road hr (by decide) (by rfl) (pa_cons (pv 3) pa_nil)) pa_nil))) (pg_tup rfl (pgs_cons (pg_name (i := 7) nd rfl (.inr rfl)) (pgs_cons (pg_name (i := 8) nd rfl (.inl rfl)) pgs_nil)))))
    (pss_cons (ps_cut (ps_for PassesOwn.never rfl (pi_list (pe_op op_cat (pv 5) (pv 6))) (pg_name (i := 9) nd rfl (.inl rfl))
      (pss_one (ps_expr (pe_c C__law_act hr (by decide) (by rfl) (pa_cons (pv 7) (pa_cons (pv 9) pa_nil)))))))
    (pss_cons (ps_cut (ps_for PassesOwn.never rfl (pi_list (pe_op op_cat (pv 5) (pe_sortI (T := [(Pt, "law.<locals>." ++ "<lambda>")]) (k := 1) (by rfl) B.sorted (pv 6) TB rfl List.mem_cons_self hTq (hr.mono (by decide)) rfl (fun _ => rfl) (by decide +kernel) (fun _ _ _ _ _ => rfl) rfl rfl rfl (by decide +kernel) rfl))) (pg_name (i := 9) nd rfl (.inl rfl))
      (pss_one (ps_expr (pe_c C__law_act hr (by decide) (by rfl) (pa_cons (pv 8) (pa_cons (pv 9) pa_nil)))))))
    (pss_cons (ps_cut (ps_asg (pe_c C__law_applied hr (by decide) (by rfl) (pa_cons (pv 3) (pa_cons (pe_op op_cat (pv 5) (pv 6)) pa_nil))) (pg_tup rfl (pgs_cons (pg_name (i := 10) nd rfl (.inr rfl)) (pgs_cons (pg_name (i := 11) nd rfl (.inl rfl)) pgs_nil)))))
    (pss_cons (ps_cut (ps_if (PW.pt (pw_or (pt_cmpR (op_ne_dictA hu1) (pe_meth0 (pv 7) T.cl N_places.hm N_places.ok (hr.mono (by decide)) N_places.b N_places.v (E := E0) pass0) (pv 11) (nomark _)) (pw_or1 (pt_cmpR (op_ne_dictA hu1) (pe_meth0 (pv 8) T.cl N_places.hm N_places.ok (hr.mono (by decide)) N_places.b N_places.v (E := E0) pass0) (pv 11) (nomark _)))))
      (pss_one (ps_ret pe_bl))
      pss_nil))
    (pss_cons (ps_cut (ps_for PassesOwn.never rfl (pi_list (pe_op op_cat (pe_slice sl_list (pe_callTy (call_listD rfl) (by rfl) B.list (by decide +kernel) (pa_cons (pv 10) pa_nil)) po_none (po_some pe_int)) (pe_listRg rfl (by rfl) B.list (prg_2 (by rfl) B.range (pe_un un_neg pe_int) pe_int)))) (pg_name (i := 12) nd rfl (.inl rfl))
      (pss_one (ps_if (PW.pt (pw_or (pt_cmpR op_ne (pe_meth (pv 7) T.cl N_dial.hm N_dial.ok (hr.mono (by decide)) N_dial.b N_dial.v (E := E0) pass0 (pa_cons (pv 12) pa_nil)) (pe_dget2 hu (pv 10) (pv 12) pe_int ⟨rfl, rfl, rfl, rfl⟩) (nomark _)) (pw_or1 (pt_cmpR op_ne (pe_meth (pv 8) T.cl N_dial.hm N_dial.ok (hr.mono (by decide)) N_dial.b N_dial.v (E := E0) pass0 (pa_cons (pv 12) pa_nil)) (pe_dget2 hu (pv 10) (pv 12) pe_int ⟨rfl, rfl, rfl, rfl⟩) (nomark _)))))
      (pss_one (ps_ret pe_bl))
      pss_nil))))
    (pss_cons (ps_cut (ps_par (i := 13) (j := 14) (by rfl) nd rfl rfl (by decide) rfl rfl (pa_cons (pe_c C__law_program hr (by decide) (by rfl) (pa_cons (pv 1) (pa_cons pe_int (pa_cons pe_int (pa_cons pe_int pa_nil))))) (pa_cons (pe_c C__law_program hr (by decide) (by rfl) (pa_cons (pv 1) (pa_cons pe_int (pa_cons pe_int (pa_cons pe_int pa_nil))))) pa_nil)) (by rfl)))
    (pss_cons (ps_set (i := 15) nd rfl (.inl rfl) (pe_c C_compose hr (by decide) (by rfl) (pa_cons (pv 3) (pa_cons (pe_c C_effect_of hr (by decide) (by rfl) (pa_cons (pv 3) (pa_cons (pv 13) pa_nil))) (pa_cons (pe_c C_effect_of hr (by decide) (by rfl) (pa_cons (pv 3) (pa_cons (pv 14) pa_nil))) pa_nil)))))
    (pss_cons (ps_expr (pe_meth (pv 7) T.cl M_run.hm M_run.ok (hr.mono (by decide)) M_run.b .nil (E := E0) pass0 (pa_cons (pe_ix ix_list (pv 4) pe_int (fun _ _ => rfl)) (pa_cons (pv 13) pa_nil))))
    (pss_cons (ps_expr (pe_meth (pv 7) T.cl M_run.hm M_run.ok (hr.mono (by decide)) M_run.b .nil (E := E0) pass0 (pa_cons (pe_ix ix_list (pv 4) pe_int (fun _ _ => rfl)) (pa_cons (pv 14) pa_nil))))
    (pss_cons (ps_asg (pe_c C_apply hr (by decide) (by rfl) (pa_cons (pv 3) (pa_cons (pv 15) (pa_cons (pv 10) (pa_cons (pe_dget hu (pv 11) (pe_ix ix_list (pv 4) pe_int (fun _ _ => rfl)) (fun _ _ => rfl)) pa_nil))))) (pg_tup rfl (pgs_cons (pg_name (i := 10) nd rfl (.inr rfl)) (pgs_cons (pg_name (i := 16) nd rfl (.inl rfl)) pgs_nil))))
    (pss_cons (ps_if (pt_cmpR op_ne (pe_dget hu (pe_meth0 (pv 7) T.cl N_places.hm N_places.ok (hr.mono (by decide)) N_places.b N_places.v (E := E0) pass0) (pe_ix ix_list (pv 4) pe_int (fun _ _ => rfl)) (fun _ _ => rfl)) (pv 16) (nomark _))
      (pss_one (ps_ret pe_bl))
      pss_nil)
    (pss_one (ps_if (pt_cmpR (op_neD hu2) (pe_lc (own := [("_law_spot", 12)]) (by rfl) nd (pi_list (pe_slice sl_list (pe_callTy (call_listD rfl) (by rfl) B.list (by decide +kernel) (pa_cons (pv 10) pa_nil)) po_none (po_some pe_int))) (blkOk_by (N := ["_law_script", "_law_pen_here", "_law_turn", "_law_prime_here", "_law_names", "_law_starts", "_law_runs", "_law_road", "_law_other", "_law_action", "_law_dials", "_law_spots", "_law_spot", "_law_first", "_law_second", "_law_joined", "_law_last", "_law_wrong", "_law_name", "_law_k"]) (sc := defScope s_law) (own := [("_law_spot", 12)]) (by decide +kernel)) (fun _ _ _ _ _ => (pg_name (i := 12) nd rfl (.inl rfl))) (fun _ _ _ _ _ => (pts_one (pt_cmpR op_ne (pe_meth (pv 7) T.cl N_dial.hm N_dial.ok (hr.mono (by decide)) N_dial.b N_dial.v (E := E0) pass0 (pa_cons (pv 12) pa_nil)) (pe_dget hu (pv 10) (pv 12) (fun _ _ => rfl)) (nomark _)))) (fun _ _ _ _ _ => (pv 12))) (pe_lst pa_nil) (nomark _))
      (pss_one (ps_ret pe_bl))
      pss_nil))))))))))))))))))
    (pss_cons (ps_cut (ps_setLc (i := 6) (own := [("_law_k", 19)]) (by rfl) nd rfl rfl (sw_true rfl rfl rfl (by decide +kernel)) (pi_range1 (by rfl) B.range (pa_cons (pe_op op_add pe_int (pe_c C__law_draw hr (by decide) (by rfl) (pa_cons (pv 1) (pa_cons pe_int pa_nil)))) pa_nil)) (blkOk_by (N := ["_law_script", "_law_pen_here", "_law_turn", "_law_prime_here", "_law_names", "_law_starts", "_law_runs", "_law_road", "_law_other", "_law_action", "_law_dials", "_law_spots", "_law_spot", "_law_first", "_law_second", "_law_joined", "_law_last", "_law_wrong", "_law_name", "_law_k"]) (sc := defScope s_law) (own := [("_law_k", 19)]) (by decide +kernel)) (fun _ _ _ _ _ => (pg_name (i := 19) nd rfl (.inl rfl))) (fun _ _ _ _ _ => pts_nil) (fun _ _ _ _ _ => (pe_tup (pa_cons pe_str (pa_cons (pe_c C__law_pick hr (by decide) (by rfl) (pa_cons (pv 1) (pa_cons (pv 4) pa_nil))) (pa_cons (pe_c C__law_body hr (by decide) (by rfl) (pa_cons (pv 1) (pa_cons pe_int (pa_cons pe_int pa_nil)))) pa_nil)))))))
    (pss_cons (ps_cut (ps_asg (pe_tup (pa_cons (pe_mk_ MK_Road hr (by decide) (by rfl) (pa_cons (pv 3) pa_nil)) (pa_cons (pe_c C__law_applied hr (by decide) (by rfl) (pa_cons (pv 3) (pa_cons (pe_op op_cat (pv 5) (pv 6)) pa_nil))) pa_nil))) (pg_tup rfl (pgs_cons (pg_name (i := 7) nd rfl (.inr rfl)) (pgs_cons (pg_tup rfl (pgs_cons (pg_name (i := 10) nd rfl (.inr rfl)) (pgs_cons (pg_name (i := 11) nd rfl (.inl rfl)) pgs_nil))) pgs_nil)))))
    (pss_cons (ps_cut (ps_for PassesOwn.never rfl (pi_list (pe_op op_cat (pv 5) (pv 6))) (pg_name (i := 9) nd rfl (.inl rfl))
      (pss_one (ps_expr (pe_c C__law_act hr (by decide) (by rfl) (pa_cons (pv 7) (pa_cons (pv 9) pa_nil)))))))
    (pss_cons (ps_cut (ps_setLc (i := 17) (own := [("_law_spot", 12)]) (by rfl) nd rfl rfl (sw_true rfl rfl rfl (by decide +kernel)) (pi_list (pe_op op_cat (pe_callTy (call_listD rfl) (by rfl) B.list (by decide +kernel) (pa_cons (pv 10) pa_nil)) (pe_listRg rfl (by rfl) B.list (prg_2 (by rfl) B.range (pe_un un_neg pe_int) pe_int)))) (blkOk_by (N := ["_law_script", "_law_pen_here", "_law_turn", "_law_prime_here", "_law_names", "_law_starts", "_law_runs", "_law_road", "_law_other", "_law_action", "_law_dials", "_law_spots", "_law_spot", "_law_first", "_law_second", "_law_joined", "_law_last", "_law_wrong", "_law_name", "_law_k"]) (sc := defScope s_law) (own := [("_law_spot", 12)]) (by decide +kernel)) (fun _ _ _ _ _ => (pg_name (i := 12) nd rfl (.inl rfl))) (fun _ _ _ _ _ => (pts_one (pt_cmpR op_ne (pe_meth (pv 7) T.cl N_dial.hm N_dial.ok (hr.mono (by decide)) N_dial.b N_dial.v (E := E0) pass0 (pa_cons (pv 12) pa_nil)) (pe_dget2 hu (pv 10) (pv 12) pe_int ⟨rfl, rfl, rfl, rfl⟩) (nomark _)))) (fun _ _ _ _ _ => (pv 12))))
    (pss_one (ps_ret (pe_and (pe_cmpR (op_eqD hu2) (pv 17) (pe_lst pa_nil) (nomark _)) (pe_one (pe_cmpR (op_eq_dictA hu1) (pe_meth0 (pv 7) T.cl N_places.hm N_places.ok (hr.mono (by decide)) N_places.b N_places.v (E := E0) pass0) (pv 11) (nomark _)))))))))))), ?_⟩
    refine ⟨_, rfl, a, ns, rfl, hS, fun p c H1 np s1 pen1 => ?_⟩
    have hT1 : LamX.Tabs [(Pt, ("law.<locals>." : Str) ++ "<lambda>")] H1 := by
      intro q hq
      rw [List.mem_singleton.mp hq]
      exact LamX.TabS.nil (s1 _ _ hP)
    refine ⟨2, rfl, by decide, by decide, for_range (lo := 0) (n := 2) (fun i σ H2 => ∃ (y2 y3 y4 y5 y6 y7 y8 y9 y10 y11 y12 y13 y14 y15 y16 y17 y18 y19 : Option V), σ = [some (.ref a), some (.ref p), y2, y3, y4, y5, y6, y7, y8, y9, y10, y11, y12, y13, y14, y15, y16, y17, y18, y19] ∧ PenAt H2 p c (20000 * i) ∧ LamX.Tabs [(Pt, ("law.<locals>." : Str) ++ "<lambda>")] H2 ∧ (i ≠ 0 → ∃ (N S : Addr) (q : Int) (ns2 : List Str) (xs : List V) (as : List Act), y3 = some (.int q) ∧ y4 = some (.ref N) ∧ y5 = some (.ref S) ∧ Sta K p c (20000 * i) H2 N S q ns2 xs as)) ⟨_, _, _, _, _, _, _, _, _, _, _, _, _, _, _, _, _, _, rfl, pen1, hT1, fun z => absurd rfl z⟩ ?_ ?_⟩
    · rintro i σ H2 hi ⟨y2, y3, y4, y5, y6, y7, y8, y9, y10, y11, y12, y13, y14, y15, y16, y17, y18, y19, rfl, pen2, hT2, _⟩
      refine ⟨_, rfl, p, c, _, rfl, pen2, by omega, fun q H3 hq k3 pen3 => ?_⟩
      obtain ⟨q2, q97⟩ := prime_rng q hq
      have q0 : 0 < q := by omega
      have hT3 := tabs_kp hT2 pen2 k3
      refine ⟨_, rfl, p, c, 3, _, rfl, by decide, by decide, pen3, by omega, fun N ns2 H4 nN k4 pen4 hN hnl hnd hok => ?_⟩
      have hT4 := tabs_kp hT3 pen3 k4
      refine ⟨sl_of (show 2 ≤ 1000000 by decide), fun t nt => ?_⟩
      have st := same_new nt (o := HO.tup [V.int q, V.ref N])
      refine ⟨t, _, rfl, SqT.of upd_same, rfl, _, _, rfl, _, _, rfl, rfl, ?_⟩
      have hN5 := st _ _ hN
      have pen5 := (pen4.same st).mono (show _ ≤ 20000 * i + 27 by omega)
      have hT5 := fun z hz => (hT4 z hz).ext st
      generalize upd H4 t (.tup [V.int q, V.ref N]) = H5 at hN5 pen5 hT5
      clear st hN pen4 hT4 nt nN hT2 hT3
      -- where they start
      refine ⟨fun σ H6 => ∃ (S : Addr) (xs : List V) (as : List Act), σ = [some (.ref a), some (.ref p), some (.int (0 + (i : Int))), some (.int q), some (.ref N), some (.ref S), y6, y7, y8, y9, y10, y11, y12, y13, y14, y15, y16, y17, y18, y19] ∧ LamX.Tabs [(Pt, ("law.<locals>." : Str) ++ "<lambda>")] H6 ∧ Sta K p c (20000 * i + 100) H6 N S q ns2 xs as, ?_, ?_⟩
      · dsimp only [gName, tSeq, tAsg]
        refine lcMadeW (n := (ns2.map V.str).length) (J := Itl K N) (walk_list (K := K) (a := N) (xs := ns2.map V.str)) (fun m H' v => ∃ (z : Str) (pl : Int), ns2[m]? = some z ∧ pl.natAbs ≤ 9 ∧ ActV K H' v (.enter z pl)) (fun m Ha Hb b v pena ka ⟨z, pl, e1, e2, e3⟩ => ⟨z, pl, e1, e2, e3.kp pena ka⟩) (fun S hS => ⟨_, rfl, N, rfl, ⟨_, SqL.of hN5⟩, hS⟩) (fun H' k' => SqL.of (kp_lst pen5 k' hN5)) (by rw [List.length_map, hnl]; decide) (20000 * i + 27) 1 pen5 (fun m x Hl Hl' hm kl penl hy S hS => ?_) fun S ys H6 nS hS6 yl hR k6 pen6 => ?_
        · obtain ⟨rfl, hx⟩ := hy
          rw [List.getElem?_map] at hx
          obtain ⟨z, hz, rfl⟩ := Option.map_eq_some_iff.mp hx
          refine ⟨rfl, _, rfl, _, rfl, p, c, 9, _, rfl, by decide, by decide, penl, by rw [List.length_map, hnl] at hm; omega, fun pl H8 hpl k8 pen8 => ⟨sl_of (show 3 ≤ 1000000 by decide), fun t nt => ?_⟩⟩
          have st := same_new nt (o := HO.tup [V.str "enter", V.str z, V.int pl])
          refine hS _ _ (k8.trans (Same.kp st)) (pen8.same st) fun D nD ⟨zs, eD⟩ => ⟨z, pl, hz, hpl, t, rfl, SqT.of (er1_of (fun y => ?_) upd_same)⟩
          rw [← y, upd_same] at eD
          cases eD
        · rw [List.length_map] at yl
          obtain ⟨as, hA6, hnm, hen⟩ := acts_enter yl hR
          refine ⟨S, ys, as, rfl, tabs_kp hT5 pen5 k6, ⟨q0, q97, pen6.mono (by rw [List.length_map, hnl]; omega), kp_lst pen5 k6 hN5, hnl, hnd, hok, hS6, hA6, hnm, hen⟩⟩
      rintro σ H6 ⟨S, xs, as, rfl, hT6, st6⟩
      clear hT5 pen5 hN5
      -- the runs
      refine ⟨fun σ H7 => ∃ (R : Addr) (zs : List V) (fa : V → Act), σ = [some (.ref a), some (.ref p), some (.int (0 + (i : Int))), some (.int q), some (.ref N), some (.ref S), some (.ref R), y7, y8, y9, y10, y11, y12, y13, y14, y15, y16, y17, y18, y19] ∧ LamX.Tabs [(Pt, ("law.<locals>." : Str) ++ "<lambda>")] H7 ∧ Sta K p c (20000 * i + 13000) H7 N S q ns2 xs as ∧ H7 R = some (.lst zs) ∧ ActVs K H7 zs (zs.map fa) ∧ RunsOf ns2 (zs.map fa) ∧ zs.length ≤ 6, ?_, ?_⟩
      · dsimp only [tAsg]
        refine lcOver (fun J H0 => ∃ N0 : Nat, J = Itr 0 N0 ∧ N0 ≤ 6 ∧ Kp p H6 H0 ∧ PenAt H0 p c (20000 * i + 101)) (fun S0 hS => ⟨_, rfl, p, c, 6, _, rfl, by decide, by decide, st6.pen, by omega, fun r H7 r0 r6 k7 pen7 => ⟨1, r, rfl, rfl, 1 + r, rfl, by omega, by omega, hS _ _ ⟨(1 + r).toNat, rfl, by omega, k7, pen7⟩⟩⟩) ?_
        rintro J H0 ⟨N0, rfl, hN0, k0, pen0⟩
        have st0 := st6.kp k0 pen0
        refine lcMadeW (n := N0) (J := Itr 0 N0) (walk_range (lo := 0) (n := N0)) (fun m H' v => ∃ (z : Str) (d : PyData) (b : List Ins), z ∈ ns2 ∧ EffP b ∧ IsP d b ∧ ActV K H' v (.run z d b)) (fun m Ha Hb b v pena ka ⟨z, d, b, e1, e2, e3, e4⟩ => ⟨z, d, b, e1, e2, e3, e4.kp pena ka⟩) (fun S hS => hS) (fun H' k' => trivial) (by omega) (20000 * i + 101) 2001 pen0 (fun m x Hl Hl' hm kl penl hy S0 hS => ?_) fun R zs H7 nR hR zl hG k7 pen7 => ?_
        · obtain ⟨rfl, rfl⟩ := hy
          refine ⟨rfl, _, rfl, _, rfl, p, c, N, _, ns2.map V.str, rfl, penl, by have := Nat.mul_le_mul_left 2001 (Nat.le_of_lt hm); omega, kp_lst pen0 kl st0.nm, by rw [List.length_map, hnl]; decide, by rw [List.length_map, hnl]; decide, fun zv H8 hz k8 pen8 => ?_⟩
          obtain ⟨z, hz2, rfl⟩ := List.mem_map.mp hz
          refine ⟨_, rfl, p, c, 2, 5, 3, _, rfl, by decide, by decide, by decide, by decide +kernel, by decide, by decide, pen8, by have := Nat.mul_le_mul_left 2001 (Nat.le_of_lt hm); omega, fun F xs2 b H9 nF k9 pen9 hF hI mid => ⟨sl_of (show 3 ≤ 1000000 by decide), fun t nt => ?_⟩⟩
          have st := same_new nt (o := HO.tup [V.str "run", V.str z, V.ref F])
          obtain ⟨d, hd, hp⟩ := pv_list (SqL.of (er_of hF fun ys e => by rw [nF] at e; cases e)) hI
          refine hS _ _ (k8.trans (k9.trans (Same.kp st))) ((pen9.same st).mono (by omega)) fun D nD ⟨zs, eD⟩ => ?_
          have Dt : t ≠ D := fun y => by
            rw [← y, upd_same] at eD
            cases eD
          have eD9 : H9 D = some (.lst zs) := by rwa [upd_ne Dt.symm] at eD
          have Dp9 : D ≠ p := fun y => by
            obtain ⟨_, e⟩ := pen9.dk
            rw [← y, eD9] at e
            cases e
          have hD8 : H8 D = some (.lst zs) := by
            cases e : Hl' D with
            | none => exact absurd e nD
            | some o =>
              have e8 := k8 _ _ Dp9 e
              rw [k9 _ _ Dp9 e8] at eD9
              rw [e8, eD9]
          have sm : Same (er H8 H9) (er1 D (upd H9 t (.tup [V.str "run", V.str z, V.ref F]))) := fun b2 o e => by
            obtain ⟨e1, e2⟩ := er_at e
            refine er1_of (fun y => ?_) (st _ _ e1)
            rw [y] at e2
            exact e2 zs hD8
          exact ⟨z, d, b, hz2, (mid.up (by decide) (by decide) (by decide)).eff, hp, t, .ref F, rfl, SqT.of (er1_of Dt upd_same), Dp.same sm hd, hp⟩
        · obtain ⟨fa, hrs, hof⟩ := acts_run (fun y hy => by
            obtain ⟨m, hm⟩ := List.getElem?_of_mem hy
            exact hG m y hm)
          have few : 2001 * N0 ≤ 2001 * 6 := Nat.mul_le_mul_left _ hN0
          exact ⟨R, zs, fa, rfl, tabs_kp (tabs_kp hT6 st6.pen k0) pen0 k7, (st0.kp k7 pen7).mono (by omega), hR, hrs, hof, by omega⟩
      rintro σ H7 ⟨R, zs, fa, rfl, hT7, st7, hR7, hrs7, hof, zl⟩
      clear hT6 st6
      obtain ⟨rs, ers⟩ : ∃ X, X = zs.map fa := ⟨_, rfl⟩
      rw [← ers] at hrs7 hof
      -- two roads
      refine ⟨fun σ H' => ∃ (r D T0 r2 D2 T2 : Addr), σ = [some (.ref a), some (.ref p), some (.int (0 + (i : Int))), some (.int q), some (.ref N), some (.ref S), some (.ref R), some (.ref r), some (.ref r2), y9, y10, y11, y12, y13, y14, y15, y16, y17, y18, y19] ∧ LamX.Tabs [(Pt, ("law.<locals>." : Str) ++ "<lambda>")] H' ∧ L98b K C p c (20000 * i + 13000) (MAdd (M3 p D T0) D2 T2) H' N ns2 r D T0 q [] [] r2 D2 T2 [] [] ∧ HisAt K (MAdd (M3 p D T0) D2 T2) H' S xs as ∧ HisAt K (MAdd (M3 p D T0) D2 T2) H' R zs rs, ?_, ?_⟩
      · refine ⟨_, rfl, ?_⟩
        intro r dx nr ndx nex
        have s1 : Same H7 (upd (upd H7 dx (.own r)) r (.ins C dx [])) := fun b o e => by
          rw [upd_ne (ne_of_none e nr), upd_ne (ne_of_none e ndx)]
          exact e
        refine ⟨r, dx, q, rfl, upd_same, fun D T0 H8 k8 nD nT DT hr8 hD8 hT8 => ⟨rfl, ?_⟩⟩
        have nD7 := none_before s1 nD
        have nT7 := none_before s1 nT
        have s8 : Same H7 H8 := fun b o e => k8 b o (ne_of_none e nr) (s1 _ _ e)
        refine ⟨_, rfl, ?_⟩
        intro r2 dx2 nr2 ndx2 nex2
        have s2 : Same H8 (upd (upd H8 dx2 (.own r2)) r2 (.ins C dx2 [])) := fun b o e => by
          rw [upd_ne (ne_of_none e nr2), upd_ne (ne_of_none e ndx2)]
          exact e
        refine ⟨r2, dx2, q, rfl, upd_same, fun D2 T2 H9 k9 nD2 nT2 DT2 hr9 hD9 hT9 => ⟨rfl, ?_⟩⟩
        have nD8 := none_before s2 nD2
        have nT8 := none_before s2 nT2
        have s9 : Same H8 H9 := fun b o e => k9 b o (ne_of_none e nr2) (s2 _ _ e)
        obtain ⟨_, _, _, hpp7, hcc7, _⟩ := id st7.pen.ex
        have hp8 := s8 _ _ hpp7
        have rp : r ≠ p := (ne_of_none hpp7 nr).symm
        have s79 := s8.trans s9
        have nD27 : H7 D2 = none := none_before s8 nD8
        have nT27 : H7 T2 = none := none_before s8 nT8
        have out7 : ∀ {b : Addr} {o : HO}, b ≠ p → H7 b = some o → ¬ MAdd (M3 p D T0) D2 T2 b := fun {b o} np e z => by
          rcases z with (z | z | z) | z | z
          · exact np z
          · rw [z, nD7] at e
            cases e
          · rw [z, nT7] at e
            cases e
          · rw [z, nD27] at e
            cases e
          · rw [z, nT27] at e
            cases e
        have k79 : Kp p H7 (erM (MAdd (M3 p D T0) D2 T2) H9) := fun b o np e => erM_of (out7 np e) (s79 _ _ e)
        have Np : N ≠ p := fun z => by
          have := st7.nm
          rw [z, hpp7] at this
          cases this
        have cp : c ≠ p := fun z => by
          rw [z, hpp7] at hcc7
          cases hcc7
        have free8 : ∀ {b : Addr} {o : HO}, b ≠ p → H7 b = some o → ¬ M3 p D T0 b := fun {b o} np e z => out7 np e (.inl z)
        have L8 : L98 K C p c (20000 * i + 13000) (M3 p D T0) H8 N ns2 r D T0 q [] [] := ⟨st7.pen.same s8, RoadAt.made hr8 hD8 hT8 rp DT, M3.mok hp8 hD8 hT8, erM_of (free8 Np st7.nm) (s8 _ _ st7.nm), free8 cp hcc7⟩
        have mok9 := MAdd.mok L8.mok s9 hD9 hT9
        have L9 := L8.load s9 nD8 nT8 mok9 (MAdd.made L8.mok nr2 DT2 hr9 hD9 hT9)
        refine ⟨sl_of (show 2 ≤ 1000000 by decide), fun t nt => ?_⟩
        have st := same_new nt (o := HO.tup [V.ref r, V.ref r2])
        have kst : Kst (MAdd (M3 p D T0) D2 T2) H9 (upd H9 t (.tup [V.ref r, V.ref r2])) := fun b o _ e => st _ _ e
        refine ⟨t, _, rfl, SqT.of upd_same, rfl, _, _, rfl, _, _, rfl, rfl, ?_⟩
        refine ⟨r, D, T0, r2, D2, T2, rfl, fun z hz => ((hT7 z hz).ext s79).ext st, L9.same st, HisAt.kst ⟨kp_lst st7.pen k79 st7.ls, ActVs.kp st7.pen k79 st7.acts⟩ kst, HisAt.kst ⟨kp_lst st7.pen k79 hR7, ActVs.kp st7.pen k79 hrs7⟩ kst⟩
      rintro σ H8 ⟨r, D, T0, r2, D2, T2, rfl, hT8, L8, hS8, hR8⟩
      obtain ⟨M, hM⟩ : ∃ X, X = MAdd (M3 p D T0) D2 T2 := ⟨_, rfl⟩
      rw [← hM] at L8 hS8 hR8
      clear hT7 hR7 hrs7
      -- the first road goes
      have tk := made_ok st7.names st7.nd st7.ok st7.ent hof
      have lenA : as.length = 3 := by rw [← enter_len st7.ent, st7.names, st7.len]
      have lenX : xs.length = 3 := by rw [hS8.acts.len, lenA]
      have lenR : rs.length = zs.length := hR8.acts.len.symm
      refine ⟨fun σ H' => ∃ (y9 : Option V), σ = [some (.ref a), some (.ref p), some (.int (0 + (i : Int))), some (.int q), some (.ref N), some (.ref S), some (.ref R), some (.ref r), some (.ref r2), y9, y10, y11, y12, y13, y14, y15, y16, y17, y18, y19] ∧ LamX.Tabs [(Pt, ("law.<locals>." : Str) ++ "<lambda>")] H' ∧ L98b K C p c (20000 * i + 13000) M H' N ns2 r D T0 q (as ++ rs) [] r2 D2 T2 [] [] ∧ HisAt K M H' S xs as ∧ HisAt K M H' R zs rs, ?_, ?_⟩
      · refine ⟨_, rfl, _, rfl, S, R, _, _, rfl, rfl, hS8.list, hR8.list, sl_of (show xs.length + zs.length ≤ 1000000 by omega), fun W nW => ?_⟩
        have sW := same_new nW (o := HO.lst (xs ++ zs))
        have L9 := L8.same sW
        have kW : Kst M H8 (upd H8 W (.lst (xs ++ zs))) := fun b o _ e => sW _ _ e
        have hW : erM M (upd H8 W (.lst (xs ++ zs))) W = some (.lst (xs ++ zs)) := erM_of (fun z => L8.l.mok.there z nW) upd_same
        have hX9 := paired_app (hS8.kst kW).acts (hR8.kst kW).acts
        have hT9 := tabs_kst hT8 L8.l.mok kW
        have hS9 := hS8.kst kW
        have hR9 := hR8.kst kW
        generalize upd H8 W (.lst (xs ++ zs)) = H9 at L9 hW hX9 hT9 hS9 hR9
        have lx : (xs ++ zs).length = (as ++ rs).length := by rw [List.length_append, List.length_append, lenX, lenA, lenR]
        have l9 : (as ++ rs).length ≤ 9 := by rw [List.length_append]; omega
        refine ⟨W, rfl, ⟨_, SqL.of (erM_at hW).2⟩, for_list (K := K) (a := W) (xs := xs ++ zs) (fun j σ H' => ∃ (y9 : Option V), σ = [some (.ref a), some (.ref p), some (.int (0 + (i : Int))), some (.int q), some (.ref N), some (.ref S), some (.ref R), some (.ref r), some (.ref r2), y9, y10, y11, y12, y13, y14, y15, y16, y17, y18, y19] ∧ Kst M H9 H' ∧ L98b K C p c (20000 * i + 13000) M H' N ns2 r D T0 q ((as ++ rs).take j) [] r2 D2 T2 [] []) ⟨y9, rfl, Kst.refl _ _, L9⟩ ?_ ?_ ?_⟩
        · rintro j σ H' _ ⟨_, _, kM, _⟩
          exact SqL.of (erM_at (kM.er _ _ hW)).2
        · rintro j x σ H' hj ⟨y9, rfl, kM, L'⟩
          obtain ⟨aj, ha, hxa⟩ := ActVs.get hX9 hj
          have hxa' := hxa.same (kM.er.trans erM_le)
          have lt : ((as ++ rs).take j).length ≤ 9 := by
            rw [List.length_take]
            omega
          refine ⟨_, rfl, _, rfl, r, D, T0, p, q, (as ++ rs).take j, [], M, x, aj, rfl, L'.l.road, L'.l.mok, hxa', tk j aj ha, by omega, fun H'' k' mok' R' => ?_⟩
          rw [← take_snoc ha] at R'
          exact ⟨_, rfl, kM.trans (k'.sub (own_sub L'.l.road)), L'.one k' mok' R'⟩
        · rintro σ H' ⟨y9, rfl, kM, L'⟩
          rw [lx, List.take_length] at L'
          exact ⟨_, rfl, tabs_kst hT9 L9.l.mok kM, L', hS9.kst kM, hR9.kst kM⟩
      rintro σ H9 ⟨y9, rfl, hT9, L9, hS9, hR9⟩
      clear hT8 L8 hS8 hR8
      -- the other road: the runs by their names
      refine ⟨fun σ H' => ∃ (y9 : Option V) (bs : List Act), σ = [some (.ref a), some (.ref p), some (.int (0 + (i : Int))), some (.int q), some (.ref N), some (.ref S), some (.ref R), some (.ref r), some (.ref r2), y9, y10, y11, y12, y13, y14, y15, y16, y17, y18, y19] ∧ LamX.Tabs [(Pt, ("law.<locals>." : Str) ++ "<lambda>")] H' ∧ L98b K C p c (20000 * i + 13000) M H' N ns2 r D T0 q (as ++ rs) [] r2 D2 T2 (as ++ bs) [] ∧ bs.Perm rs ∧ Alike bs rs ∧ HisAt K M H' S xs as ∧ HisAt K M H' R zs rs, ?_, ?_⟩
      · refine ⟨_, rfl, _, rfl, R, zs, fun x => nmA (fa x), rfl, SqL.of hR9.list, run_keys (ers ▸ hR9.all) (ers ▸ hof), hT9, fun H2 W2 ys eN hTv nW2 perm stay => ?_⟩
        have sV := same_new nW2 (o := HO.lst ys)
        have LE := L9.ext eN
        have L10 := LE.same sV
        have kV : Kst M H2 (upd H2 W2 (.lst ys)) := fun b o _ e => sV _ _ e
        have hS10 := (hS9.ext eN).kst kV
        have hR10 := (hR9.ext eN).kst kV
        have hT10 := tabs_kst hTv LE.l.mok kV
        have hY : upd H2 W2 (.lst ys) W2 = some (.lst ys) := upd_same
        have hB10 := acts_map (ers ▸ hR10.acts) perm
        have al : Alike (ys.map fa) rs := by rw [ers]; exact alike_map stay
        have pb : (ys.map fa).Perm rs := by rw [ers]; exact perm.map fa
        obtain ⟨bs, ebs⟩ : ∃ X, X = ys.map fa := ⟨_, rfl⟩
        rw [← ebs] at hB10 al pb
        have ly : ys.length = zs.length := perm.length_eq
        have lb : bs.length = rs.length := pb.length_eq
        generalize upd H2 W2 (.lst ys) = H10 at L10 hS10 hR10 hT10 hY hB10
        refine ⟨S, W2, _, _, rfl, rfl, hS10.list, hY, sl_of (show xs.length + ys.length ≤ 1000000 by omega), fun W nW => ?_⟩
        have sW := same_new nW (o := HO.lst (xs ++ ys))
        have L11 := L10.same sW
        have kW : Kst M H10 (upd H10 W (.lst (xs ++ ys))) := fun b o _ e => sW _ _ e
        have hW : erM M (upd H10 W (.lst (xs ++ ys))) W = some (.lst (xs ++ ys)) := erM_of (fun z => L10.l.mok.there z nW) upd_same
        have hX11 := paired_app (hS10.kst kW).acts (ActVs.same kW.er hB10)
        have hT11 := tabs_kst hT10 L10.l.mok kW
        have hS11 := hS10.kst kW
        have hR11 := hR10.kst kW
        generalize upd H10 W (.lst (xs ++ ys)) = H11 at L11 hW hX11 hT11 hS11 hR11
        have tk2 := made_ok st7.names st7.nd st7.ok st7.ent (hof.perm pb)
        have lx : (xs ++ ys).length = (as ++ bs).length := by rw [List.length_append, List.length_append, lenX, lenA, ly, lb, lenR]
        have l9 : (as ++ bs).length ≤ 9 := by rw [List.length_append]; omega
        refine ⟨W, rfl, ⟨_, SqL.of (erM_at hW).2⟩, for_list (K := K) (a := W) (xs := xs ++ ys) (fun j σ H' => ∃ (y9 : Option V), σ = [some (.ref a), some (.ref p), some (.int (0 + (i : Int))), some (.int q), some (.ref N), some (.ref S), some (.ref R), some (.ref r), some (.ref r2), y9, y10, y11, y12, y13, y14, y15, y16, y17, y18, y19] ∧ Kst M H11 H' ∧ L98b K C p c (20000 * i + 13000) M H' N ns2 r D T0 q (as ++ rs) [] r2 D2 T2 ((as ++ bs).take j) []) ⟨y9, rfl, Kst.refl _ _, L11⟩ ?_ ?_ ?_⟩
        · rintro j σ H' _ ⟨_, _, kM, _⟩
          exact SqL.of (erM_at (kM.er _ _ hW)).2
        · rintro j x σ H' hj ⟨y9, rfl, kM, L'⟩
          obtain ⟨aj, ha, hxa⟩ := ActVs.get hX11 hj
          have hxa' := hxa.same (kM.er.trans erM_le)
          have lt : ((as ++ bs).take j).length ≤ 9 := by
            rw [List.length_take]
            omega
          refine ⟨_, rfl, _, rfl, r2, D2, T2, p, q, (as ++ bs).take j, [], M, x, aj, rfl, L'.two, L'.l.mok, hxa', tk2 j aj ha, by omega, fun H'' k' mok' R' => ?_⟩
          rw [← take_snoc ha] at R'
          exact ⟨_, rfl, kM.trans (k'.sub (own_sub L'.two)), L'.other k' mok' R'⟩
        · rintro σ H' ⟨y9, rfl, kM, L'⟩
          rw [lx, List.take_length] at L'
          exact ⟨_, bs, rfl, tabs_kst hT11 L11.l.mok kM, L', pb, al, hS11.kst kM, hR11.kst kM⟩
      rintro σ H10 ⟨y9, bs, rfl, hT10, L10, pb, al, hS10, hR10⟩
      clear hT9 L9 hS9 hR9
      have lb : bs.length = rs.length := pb.length_eq
      have lg1 : Lgl (as ++ rs) := tk.lg
      have tk2 := made_ok st7.names st7.nd st7.ok st7.ent (hof.perm pb)
      have lg2 : Lgl (as ++ bs) := tk2.lg
      -- what the effects tell
      refine ⟨fun σ H' => ∃ (y9 : Option V) (d s : Addr) (g : Pol), σ = [some (.ref a), some (.ref p), some (.int (0 + (i : Int))), some (.int q), some (.ref N), some (.ref S), some (.ref R), some (.ref r), some (.ref r2), y9, some (.ref d), some (.ref s), y12, y13, y14, y15, y16, y17, y18, y19] ∧ LamX.Tabs [(Pt, ("law.<locals>." : Str) ++ "<lambda>")] H' ∧ L98b K C p c (20000 * i + 13000) M H' N ns2 r D T0 q (as ++ rs) [] r2 D2 T2 (as ++ bs) [] ∧ HisAt K M H' S xs as ∧ erM M H' d = some (.dK (kvOf g)) ∧ erM M H' s = some (.dK (stK (stO (as ++ rs)))) ∧ Nf q g (fun x => dlT 0 (as ++ rs) (as ++ rs).length x) ∧ g.length ≤ 250000, ?_, ?_⟩
      · refine ⟨_, rfl, _, rfl, _, rfl, S, R, _, _, rfl, rfl, hS10.list, hR10.list, sl_of (show xs.length + zs.length ≤ 1000000 by omega), fun W nW => ?_⟩
        have sW := same_new nW (o := HO.lst (xs ++ zs))
        have L11 := L10.same sW
        have kW : Kst M H10 (upd H10 W (.lst (xs ++ zs))) := fun b o _ e => sW _ _ e
        have hX11 := paired_app (hS10.kst kW).all (hR10.kst kW).all
        have hT11 := fun z hz => (hT10 z hz).ext sW
        have hS11 := hS10.kst kW
        have hR11 := hR10.kst kW
        have hW : upd H10 W (.lst (xs ++ zs)) W = some (.lst (xs ++ zs)) := upd_same
        generalize upd H10 W (.lst (xs ++ zs)) = H11 at L11 hW hX11 hT11 hS11 hR11
        refine ⟨q, W, _, _, rfl, q0, SqL.of hW, hX11, lg1, by rw [List.length_append]; omega, made_eff st7.ent hof, fun t d s g H12 s12 ht nd12 ns12 ds hd hs Ng lg => ?_⟩
        have k12 : Kst M H11 H12 := fun b o _ e => s12 _ _ e
        refine ⟨t, _, rfl, ht, rfl, _, _, rfl, _, _, rfl, rfl, ?_⟩
        exact ⟨_, d, s, g, rfl, fun z hz => (hT11 z hz).ext s12, L11.same s12, hS11.kst k12, erM_of (fun z => L11.l.mok.there z nd12) hd, erM_of (fun z => L11.l.mok.there z ns12) hs, Ng, lg⟩
      rintro σ H11 ⟨y9, d, s0, g, rfl, hT11, L11, hS11, hd11, hs11, Ng, lgg⟩
      clear hT10 L10 hS10 hR10
      -- the places
      refine ⟨fun σ H' => σ = [some (.ref a), some (.ref p), some (.int (0 + (i : Int))), some (.int q), some (.ref N), some (.ref S), some (.ref R), some (.ref r), some (.ref r2), y9, some (.ref d), some (.ref s0), y12, y13, y14, y15, y16, y17, y18, y19] ∧ LamX.Tabs [(Pt, ("law.<locals>." : Str) ++ "<lambda>")] H' ∧ L98b K C p c (20000 * i + 13000) M H' N ns2 r D T0 q (as ++ rs) [] r2 D2 T2 (as ++ bs) [] ∧ HisAt K M H' S xs as ∧ erM M H' d = some (.dK (kvOf g)) ∧ erM M H' s0 = some (.dK (stK (stO (as ++ rs)))), ?_, ?_⟩
      · have ln1 := sto_len lg1 st7.names hof
        have ln2 := sto_len lg2 st7.names (hof.perm pb)
        have sm := (alike_dials (as := as) al 0).2
        obtain ⟨dx, hr0⟩ := L11.l.road.ob
        refine ⟨_, rfl, r, dx, _, rfl, hr0, ro_no _ _ _ (by decide +kernel), r, D, T0, q, as ++ rs, [], M, .non, (as ++ rs).length, rfl, L11.l.road, .inl ⟨rfl, rfl⟩, by rw [List.take_length, ln1, st7.len]; decide, fun S1 ns1 H12 s12 nS1 pm1 _ hS1 => ?_⟩
        rw [List.take_length] at pm1 hS1
        obtain ⟨e1, e2⟩ := spots_eq pm1 (fun _ => rfl) rfl
        have k12 : Kst M H11 H12 := fun b o _ e => s12 _ _ e
        have L12 := L11.same s12
        have hs12 := k12.er _ _ hs11
        refine ⟨_, rfl, S1, s0, _, _, rfl, rfl, hS1, (erM_at hs12).2, e1, e2, ?_⟩
        refine ⟨_, rfl, iteF ?_⟩
        obtain ⟨dx2, hr2⟩ := L12.two.ob
        refine ⟨_, rfl, r2, dx2, _, rfl, hr2, ro_no _ _ _ (by decide +kernel), r2, D2, T2, q, as ++ bs, [], M, .non, (as ++ bs).length, rfl, L12.two, .inl ⟨rfl, rfl⟩, by rw [List.take_length, ln2, st7.len]; decide, fun S2 ns3 H13 s13 nS2 pm2 _ hS2 => ?_⟩
        rw [List.take_length] at pm2 hS2
        obtain ⟨e3, e4⟩ := spots_eq pm2 sm (ln2.trans ln1.symm)
        have k13 : Kst M H12 H13 := fun b o _ e => s13 _ _ e
        refine ⟨_, rfl, S2, s0, _, _, rfl, rfl, hS2, (erM_at (k13.er _ _ hs12)).2, e3, e4, ?_⟩
        refine ⟨_, rfl, iteF ?_⟩
        exact ⟨rfl, fun z hz => ((hT11 z hz).ext s12).ext s13, L12.same s13, (hS11.kst k12).kst k13, k13.er _ _ (k12.er _ _ hd11), k13.er _ _ hs12⟩
      rintro σ H12 ⟨rfl, hT12, L12, hS12, hd12, hs12⟩
      clear hT11 L11 hS11 hd11 hs11
      -- the dials
      refine ⟨fun σ H' => ∃ (y12 : Option V), σ = [some (.ref a), some (.ref p), some (.int (0 + (i : Int))), some (.int q), some (.ref N), some (.ref S), some (.ref R), some (.ref r), some (.ref r2), y9, some (.ref d), some (.ref s0), y12, y13, y14, y15, y16, y17, y18, y19] ∧ LamX.Tabs [(Pt, ("law.<locals>." : Str) ++ "<lambda>")] H' ∧ L98b K C p c (20000 * i + 13000) M H' N ns2 r D T0 q (as ++ rs) [] r2 D2 T2 (as ++ bs) [] ∧ HisAt K M H' S xs as ∧ erM M H' d = some (.dK (kvOf g)) ∧ erM M H' s0 = some (.dK (stK (stO (as ++ rs)))), ?_, ?_⟩
      · have near := nf_near lg1 (by rw [List.length_append]; omega) (Nat.le_refl _) Ng
        refine ⟨_, rfl, d, kvOf g, rfl, .inl (erM_at hd12).2, fun p1 np1 => ?_⟩
        have z1 := same_new np1 (o := HO.lst ((kvOf g).map fun kv => kV kv.1))
        refine ⟨60, rfl, p1, _, rfl, SqL.of upd_same, fun p2 np2 => ?_⟩
        have z2 := same_new np2 (o := HO.lst (cutV ((kvOf g).map fun kv => kV kv.1) none (some 60)))
        refine ⟨_, rfl, -15, 16, rfl, rfl, by unfold RgOk; decide, fun p3 np3 => ?_⟩
        have z3 := same_new np3 (o := HO.lst (rgV (-15) 16))
        refine ⟨p2, p3, _, _, rfl, rfl, z3 _ _ upd_same, upd_same, sl_of (show (cutV ((kvOf g).map fun kv => kV kv.1) none (some 60)).length + (rgV (-15) 16).length ≤ 1000000 by
          have h1 := cutV_length ((kvOf g).map fun kv => kV kv.1) none (some 60)
          have h2 : (kvOf g).length = g.length := by unfold kvOf; rw [List.length_map]
          rw [List.length_map] at h1
          rw [rgV_length]
          have : ((16 : Int) - (-15)).toNat = 31 := by decide
          omega), fun W nW => ?_⟩
        have z4 := same_new nW (o := HO.lst (cutV ((kvOf g).map fun kv => kV kv.1) none (some 60) ++ rgV (-15) 16))
        have z14 := z1.trans (z2.trans (z3.trans z4))
        have small : ∀ e ∈ cutV ((kvOf g).map fun kv => kV kv.1) none (some 60) ++ rgV (-15) 16, ∃ x : Int, e = .int x ∧ x.natAbs ≤ 2 ^ 340 := fun e he => by
          rcases List.mem_append.mp he with he | he
          · have he := List.mem_of_mem_drop (List.mem_of_mem_take he)
            rw [key_list] at he
            obtain ⟨x, hx, rfl⟩ := List.mem_map.mp he
            obtain ⟨t, ht, rfl⟩ := List.mem_map.mp hx
            exact ⟨_, rfl, near t ht⟩
          · obtain ⟨j, hj, rfl⟩ := List.mem_map.mp he
            have := List.mem_range.mp hj
            have e31 : ((16 : Int) - (-15)).toNat = 31 := by decide
            exact ⟨_, rfl, Nat.le_trans (show ((-15 : Int) + (j : Nat)).natAbs ≤ 31 by omega) (by decide +kernel)⟩
        have k14 : Kst M H12 _ := fun b o _ e => z14 _ _ e
        have L13 := L12.same z14
        have hT13 := fun z hz => (hT12 z hz).ext z14
        have hS13 := hS12.kst k14
        have hd13 := k14.er _ _ hd12
        have hs13 := k14.er _ _ hs12
        have hW : upd (upd (upd (upd H12 p1 (.lst ((kvOf g).map fun kv => kV kv.1))) p2 (.lst (cutV ((kvOf g).map fun kv => kV kv.1) none (some 60)))) p3 (.lst (rgV (-15) 16))) W (.lst (cutV ((kvOf g).map fun kv => kV kv.1) none (some 60) ++ rgV (-15) 16)) W = some (.lst (cutV ((kvOf g).map fun kv => kV kv.1) none (some 60) ++ rgV (-15) 16)) := upd_same
        generalize upd (upd (upd (upd H12 p1 (.lst ((kvOf g).map fun kv => kV kv.1))) p2 (.lst (cutV ((kvOf g).map fun kv => kV kv.1) none (some 60)))) p3 (.lst (rgV (-15) 16))) W (.lst (cutV ((kvOf g).map fun kv => kV kv.1) none (some 60) ++ rgV (-15) 16)) = H13 at L13 hT13 hS13 hd13 hs13 hW
        generalize cutV ((kvOf g).map fun kv => kV kv.1) none (some 60) ++ rgV (-15) 16 = es at small hW
        have sm := fun x => (alike_dials (as := as) al x).1
        refine ⟨W, rfl, ⟨_, SqL.of hW⟩, for_list (K := K) (a := W) (xs := es) (fun j σ H' => ∃ (y12 : Option V), σ = [some (.ref a), some (.ref p), some (.int (0 + (i : Int))), some (.int q), some (.ref N), some (.ref S), some (.ref R), some (.ref r), some (.ref r2), y9, some (.ref d), some (.ref s0), y12, y13, y14, y15, y16, y17, y18, y19] ∧ Same H13 H') ⟨y12, rfl, fun _ _ e => e⟩ ?_ ?_ ?_⟩
        · rintro j σ H' _ ⟨_, _, sH⟩
          exact SqL.of (sH _ _ hW)
        · rintro j e σ H' hj ⟨y12, rfl, sH⟩
          obtain ⟨x, rfl, hx⟩ := small e (List.mem_of_getElem? hj)
          have L14 := L13.same sH
          obtain ⟨dx, hr0⟩ := L14.l.road.ob
          refine ⟨_, rfl, r, dx, _, rfl, hr0, ro_no _ _ _ (by decide +kernel), _, rfl, r, D, T0, q, as ++ rs, [], M, x, .non, (as ++ rs).length, rfl, L14.l.road, q0, .inl ⟨rfl, rfl⟩, hx, fun H15 s15 => ?_⟩
          have hd15 := s15 _ _ (sH _ _ (erM_at hd13).2)
          refine ⟨_, rfl, d, rfl, .inl ⟨_, .inl hd15⟩, _, rfl, _, dget_any x hd15, ?_⟩
          rw [kv_getD g x (nf_nodup Ng), Ng.cof x]
          refine ⟨rfl, _, rfl, ?_⟩
          rw [decide_eq_true rfl]
          refine iteF ?_
          have L15 := L14.same s15
          obtain ⟨dx2, hr2⟩ := L15.two.ob
          refine ⟨_, rfl, r2, dx2, _, rfl, hr2, ro_no _ _ _ (by decide +kernel), _, rfl, r2, D2, T2, q, as ++ bs, [], M, x, .non, (as ++ bs).length, rfl, L15.two, q0, .inl ⟨rfl, rfl⟩, hx, fun H16 s16 => ?_⟩
          have hd16 := s16 _ _ hd15
          refine ⟨_, rfl, d, rfl, .inl ⟨_, .inl hd16⟩, _, rfl, _, dget_any x hd16, ?_⟩
          rw [kv_getD g x (nf_nodup Ng), Ng.cof x, sm x]
          refine ⟨rfl, _, rfl, ?_⟩
          rw [decide_eq_true rfl]
          refine iteF ?_
          exact ⟨_, rfl, sH.trans (s15.trans s16)⟩
        · rintro σ H' ⟨y12, rfl, sH⟩
          have kH : Kst M H13 H' := fun b o _ e => sH _ _ e
          exact ⟨_, rfl, fun z hz => (hT13 z hz).ext sH, L13.same sH, hS13.kst kH, kH.er _ _ hd13, kH.er _ _ hs13⟩
      rintro σ H13 ⟨y12, rfl, hT13, L13, hS13, hd13, hs13⟩
      clear hT12 L12 hS12 hd12 hs12
      -- two programs more
      refine ⟨fun σ H' => ∃ (F1 F2 : Addr) (d1 d2 : PyData) (b1 b2 : List Ins), σ = [some (.ref a), some (.ref p), some (.int (0 + (i : Int))), some (.int q), some (.ref N), some (.ref S), some (.ref R), some (.ref r), some (.ref r2), y9, some (.ref d), some (.ref s0), y12, some (.ref F1), some (.ref F2), y15, y16, y17, y18, y19] ∧ LamX.Tabs [(Pt, ("law.<locals>." : Str) ++ "<lambda>")] H' ∧ L98b K C p c (20000 * i + 17000) M H' N ns2 r D T0 q (as ++ rs) [] r2 D2 T2 (as ++ bs) [] ∧ HisAt K M H' S xs as ∧ erM M H' d = some (.dK (kvOf g)) ∧ erM M H' s0 = some (.dK (stK (stO (as ++ rs)))) ∧ Dp K (erM M H') (.ref F1) d1 ∧ IsP d1 b1 ∧ EffP b1 ∧ Dp K (erM M H') (.ref F2) d2 ∧ IsP d2 b2 ∧ EffP b2, ?_, ?_⟩
      · refine ⟨_, rfl, p, c, 2, 5, 3, _, rfl, by decide, by decide, by decide, by decide +kernel, by decide, by decide, L13.l.pen, by omega, fun F1 x1 b1 H14 nF1 k14 pen14 hF1 hI1 mid1 => ?_⟩
        obtain ⟨d1, hd1, hp1⟩ := pv_list (SqL.of (er_of hF1 fun ys e => by rw [nF1] at e; cases e)) hI1
        obtain ⟨_, hpp14⟩ := pen14.dk
        have D1 := L13.l.mok.data hpp14 hd1
        have L14 := L13.kp k14 pen14
        have q14 := k14.ks L13.l.mok.pen
        refine ⟨_, rfl, p, c, 2, 5, 3, _, rfl, by decide, by decide, by decide, by decide +kernel, by decide, by decide, pen14, by omega, fun F2 x2 b2 H15 nF2 k15 pen15 hF2 hI2 mid2 => ?_⟩
        obtain ⟨d2, hd2, hp2⟩ := pv_list (SqL.of (er_of hF2 fun ys e => by rw [nF2] at e; cases e)) hI2
        obtain ⟨_, hpp15⟩ := pen15.dk
        have D2' := L14.l.mok.data hpp15 hd2
        have q15 := k15.ks L14.l.mok.pen
        refine ⟨_, _, rfl, ?_⟩
        exact ⟨F1, F2, d1, d2, b1, b2, rfl, tabs_kp (tabs_kp hT13 L13.l.pen k14) pen14 k15, (L14.kp k15 pen15).mono (by omega), (hS13.kst q14).kst q15, q15.er _ _ (q14.er _ _ hd13), q15.er _ _ (q14.er _ _ hs13), Dp.same q15.er D1, hp1, (mid1.up (by decide) (by decide) (by decide)).eff, D2', hp2, (mid2.up (by decide) (by decide) (by decide)).eff⟩
      rintro σ H14 ⟨F1, F2, d1, d2, b1, b2, rfl, hT14, L14, hS14, hd14, hs14, D1, hp1, ef1, D2', hp2, ef2⟩
      clear hT13 L13 hS13 hd13 hs13
      have q8 : ∀ {b : List Ins}, EffP b → b.length ≤ 1024 ∧ exP b ≤ 10000 := fun {b} e => by
        have h1 := len_cnP b
        have h2 := e.few
        have h3 := e.ex
        exact ⟨by omega, by omega⟩
      refine ⟨_, rfl, _, rfl, _, rfl, q, .ref F1, b1, rfl, q0, ⟨d1, Dp.same erM_le D1, hp1⟩, ef1.dp, ef1.w, (q8 ef1).1, ef1.nn, (q8 ef1).2, fun v1 H15 f1 s15 ht1 N1 l1 => ?_⟩
      refine ⟨_, rfl, _, rfl, q, .ref F2, b2, rfl, q0, ⟨d2, Dp.same (erM_le.trans s15) D2', hp2⟩, ef2.dp, ef2.w, (q8 ef2).1, ef2.nn, (q8 ef2).2, fun v2 H16 f2 s16 ht2 N2 l2 => ?_⟩
      have fl1 : f1.length ≤ 2500 := by have := ef1.ex; omega
      have fl2 : f2.length ≤ 2500 := by have := ef2.ex; omega
      refine ⟨q, v1, v2, f1, f2, shP b1, shP b2, rfl, q0, TEff.sm s16 ht1, ht2, by omega, fun u H17 rj s17 htj Nj => ?_⟩
      have s14 := s15.trans (s16.trans s17)
      have k14 : Kst M H14 H17 := fun b o _ e => s14 _ _ e
      have L17 := L14.same s14
      have hT17 := fun z hz => (hT14 z hz).ext s14
      have hS17 := hS14.kst k14
      have hd17 := k14.er _ _ hd14
      have hs17 := k14.er _ _ hs14
      have D17 := Dp.same k14.er D1
      have E17 := Dp.same k14.er D2'
      clear hT14 L14 hS14 hd14 hs14 ht1 ht2
      obtain ⟨z0, zr, ez⟩ : ∃ z0 zr, ns2 = z0 :: zr := by
        cases e : ns2 with
        | nil =>
          have := st7.len
          rw [e] at this
          cases this
        | cons z0 zr => exact ⟨z0, zr, rfl⟩
      have at0 : atI (ns2.map V.str) 0 = some (.str z0) := by
        rw [ez]
        exact at_head _ _
      have mem0 : z0 ∈ namesOf (as ++ rs) := by
        rw [names_app, st7.names, ez]
        exact List.mem_append_left _ List.mem_cons_self
      have len9 : (as ++ rs).length ≤ 9 := by rw [List.length_append]; omega
      obtain ⟨dx, hr0⟩ := L17.l.road.ob
      refine ⟨_, rfl, r, dx, _, rfl, hr0, ro_no _ _ _ (by decide +kernel), _, rfl, N, _, 0, .str z0, rfl, rfl, SqL.of (erM_at L17.l.nm).2, at0, _, rfl, r, D, T0, p, q, as ++ rs, [], M, z0, .ref F1, d1, b1, rfl, L17.l.road, L17.l.mok, mem0, Dp.same erM_le D17, hp1, ef1.ok, by omega, fun H18 k18 mok18 R18 => ?_⟩
      have q18 := k18.sub (own_sub L17.l.road)
      have hT18 := tabs_kst hT17 L17.l.mok q18
      have L18 := L17.one k18 mok18 R18
      have htj18 := TEff.tp (L17.l.mok.tp q18) htj
      have hS18 := hS17.kst q18
      have hd18 := q18.er _ _ hd17
      have hs18 := q18.er _ _ hs17
      have E18 := Dp.same q18.er E17
      clear hT17 L17 hS17 hd17 hs17 D17 E17
      obtain ⟨dx', hr0'⟩ := L18.l.road.ob
      have len10 : ((as ++ rs) ++ [Act.run z0 d1 b1]).length ≤ 10 := by rw [List.length_append]; exact Nat.succ_le_succ len9
      refine ⟨_, rfl, r, dx', _, rfl, hr0', ro_no _ _ _ (by decide +kernel), _, rfl, N, _, 0, .str z0, rfl, rfl, SqL.of (erM_at L18.l.nm).2, at0, _, rfl, r, D, T0, p, q, (as ++ rs) ++ [Act.run z0 d1 b1], [], M, z0, .ref F2, d2, b2, rfl, L18.l.road, L18.l.mok, by rw [names_app]; exact List.mem_append_left _ mem0, Dp.same erM_le E18, hp2, ef2.ok, by omega, fun H19 k19 mok19 R19 => ?_⟩
      have q19 := k19.sub (own_sub L18.l.road)
      have hT19 := tabs_kst hT18 L18.l.mok q19
      have L19 := L18.one k19 mok19 R19
      have htj19 := TEff.tp (L18.l.mok.tp q19) htj18
      have hS19 := hS18.kst q19
      have hd19 := q19.er _ _ hd18
      have hs19 := q19.er _ _ hs18
      clear hT18 L18 hS18 hd18 hs18 E18 htj18 htj
      obtain ⟨zp, hzp⟩ : ∃ zp, gS (stO (as ++ rs)) z0 = some zp := by
        cases e : gS (stO (as ++ rs)) z0 with
        | none =>
          have := gS_none.mp e
          rw [lg1.names.1] at this
          exact absurd mem0 this
        | some v => exact ⟨v, rfl⟩
      have get0 : valV (stK (stO (as ++ rs))) (Sum.inr z0) = some (.int zp) := by rw [stK_val, hzp]; rfl
      have rl := cf_sum_len Nj
      refine ⟨_, rfl, _, rfl, _, rfl, _, rfl, _, rfl, N, _, 0, .str z0, rfl, rfl, SqL.of (erM_at L19.l.nm).2, at0, s0, .int zp, rfl, .inl ⟨_, (Sum.inr z0 : Key), .inl (erM_at hs19).2, rfl, get0.symm⟩, q, u, rj, shP b1 + shP b2, d, g, zp, rfl, q0, htj19, (erM_at hd19).2, nf_nodup Ng, by omega, by omega, fun t5 D5 H20 g5 s20 nt5 nD5 tD5 ht5 hD5 N5 => ?_⟩
      have k20 : Kst M H19 H20 := fun b o _ e => s20 _ _ e
      have L20 := L19.same s20
      have hT20 := fun z hz => (hT19 z hz).ext s20
      have hS20 := hS19.kst k20
      have hD20 : erM M H20 D5 = some (.dK (kvOf g5)) := erM_of (fun z => L19.l.mok.there z nD5) hD5
      clear hT19 L19 hS19 hd19 hs19
      refine ⟨t5, _, rfl, ht5, rfl, _, _, rfl, _, _, rfl, rfl, ?_⟩
      obtain ⟨dx2, hr2⟩ := L20.l.road.ob
      have tk1 : Taken (((as ++ rs) ++ [Act.run z0 d1 b1]) ++ [Act.run z0 d2 b2]) := Taken.snoc (a := Act.run z0 d2 b2) (Taken.snoc (a := Act.run z0 d1 b1) tk ⟨mem0, ef1.ok, hp1⟩) ⟨by rw [names_app]; exact List.mem_append_left _ mem0, ef2.ok, hp2⟩
      have lgE := tk1.lg
      have nmE : namesOf (((as ++ rs) ++ [Act.run z0 d1 b1]) ++ [Act.run z0 d2 b2]) = ns2 := by
        rw [names_app, names_app, names_app, names_runs hof, st7.names]
        show ((ns2 ++ []) ++ []) ++ [] = ns2
        simp only [List.append_nil]
      have keyE := lgE.names.1
      rw [nmE] at keyE
      have lnE : (stO (((as ++ rs) ++ [Act.run z0 d1 b1]) ++ [Act.run z0 d2 b2])).length = 3 := by
        rw [← st7.len, ← keyE, List.length_map]
      refine ⟨_, rfl, r, dx2, _, rfl, hr2, ro_no _ _ _ (by decide +kernel), r, D, T0, q, _, [], M, .non, _, rfl, L20.l.road, .inl ⟨rfl, rfl⟩, by rw [List.take_length, lnE]; decide, fun S1 ns1 H21 s21 nS1 pm1 _ hS1 => ?_⟩
      rw [List.take_length] at pm1 hS1
      have pl1 := run_place (d := d1) (b := b1) hzp
      have pl2 := run_place (d := d2) (b := b2) pl1
      have in1 : z0 ∈ ns1 := pm1.mem_iff.mpr (by rw [keyE, ez]; exact List.mem_cons_self)
      have get1 : valV (stK (ns1.map fun n => (n, (gS (stO (((as ++ rs) ++ [Act.run z0 d1 b1]) ++ [Act.run z0 d2 b2])) n).getD 0))) (Sum.inr z0) = some (.int (zp + (shP b1 + shP b2))) := by
        rw [stK_val, gS_told _ z0 in1, pl2, ← Int.add_assoc]
        rfl
      have L21 := L20.same s21
      have k21 : Kst M H20 H21 := fun b o _ e => s21 _ _ e
      refine ⟨_, rfl, N, _, 0, .str z0, rfl, rfl, SqL.of (erM_at L21.l.nm).2, at0, S1, .int (zp + (shP b1 + shP b2)), rfl, .inl ⟨_, (Sum.inr z0 : Key), .inl hS1, rfl, get1.symm⟩, _, rfl, rfl, _, rfl, ?_⟩
      rw [decide_eq_true rfl]
      refine iteF ?_
      have hT21 := fun z hz => (hT20 z hz).ext s21
      have hS21 := hS20.kst k21
      have hD21 := k21.er _ _ hD20
      dsimp only [tNext, tIfS, tTest, tOp]
      have rd1 := run_dials (d := d1) (b := b1) hzp
      have rd2 := run_dials (d := d2) (b := b2) pl1
      refine lcNoNew (fun es => ∀ e ∈ es, ∃ t ∈ g5, e = .int t.1) (fun R0 hR => ⟨_, rfl, D5, kvOf g5, rfl, .inl (erM_at hD21).2, fun p1 np1 => ⟨60, rfl, p1, _, rfl, SqL.of upd_same, fun p2 np2 => hR p2 _ _ ((same_new np1).trans (same_new np2)) upd_same fun e he => ?_⟩⟩) (fun _ => rfl) (fun es hes e he H22 s22 S0 hS0 => ?_) fun Dl H22 s22 hDl => ?_
      · have he := List.mem_of_mem_drop (List.mem_of_mem_take he)
        rw [key_list] at he
        obtain ⟨x, hx, rfl⟩ := List.mem_map.mp he
        obtain ⟨t, ht, rfl⟩ := List.mem_map.mp hx
        exact ⟨t, ht, rfl⟩
      · obtain ⟨t, ht, rfl⟩ := hes e he
        have L22 := L21.same s22
        have NE : Nf q g5 (fun x => dlT 0 (((as ++ rs) ++ [Act.run z0 d1 b1]) ++ [Act.run z0 d2 b2]) (((as ++ rs) ++ [Act.run z0 d1 b1]) ++ [Act.run z0 d2 b2]).length x) := ⟨N5.asc, N5.rng, fun x => by
          rw [N5.cof, Ng.cof, Nj.cof, N1.cof, N2.cof, rd2, rd1, ← Int.add_emod (seP b1 (x - zp)), ← Int.add_emod, Int.sub_sub, ← Int.add_assoc]⟩
        have near5 := nf_near lgE (by rw [List.length_append, List.length_append]; exact Nat.le_trans (Nat.add_le_add_right (Nat.add_le_add_right len9 1) 1) (by decide)) (Nat.le_refl _) NE t ht
        obtain ⟨dx3, hr3⟩ := L22.l.road.ob
        refine ⟨_, rfl, r, dx3, _, rfl, hr3, ro_no _ _ _ (by decide +kernel), _, rfl, r, D, T0, q, _, [], M, t.1, .non, _, rfl, L22.l.road, q0, .inl ⟨rfl, rfl⟩, near5, fun H23 s23 => ?_⟩
        have hD23 := s23 _ _ (s22 _ _ (erM_at hD21).2)
        have in5 : t.1 ∈ g5.map (·.1) := List.mem_map_of_mem ht
        refine ⟨_, rfl, _, rfl, D5, .int (cf g5 t.1), rfl, by rw [← kv_has (nf_nodup N5) in5]; exact dget_any t.1 hD23, ?_⟩
        rw [NE.cof t.1]
        refine ⟨rfl, _, rfl, ?_⟩
        rw [decide_eq_true rfl]
        exact hS0 _ s23
      · refine ⟨Nat.zero_le _, fun e2 ne2 => ?_⟩
        have se := same_new ne2 (o := HO.lst [])
        refine ⟨.list [], .list [], .lst (SqL.of (se _ _ hDl)) .nil, .lst (SqL.of upd_same) .nil, rfl, rfl, ?_⟩
        refine ⟨_, rfl, iteF ?_⟩
        have sE := s22.trans se
        have kE : Kst M H21 _ := fun b o _ e => sE _ _ e
        have LE := L21.same sE
        have hSE := hS21.kst kE
        exact ⟨_, _, _, _, _, _, _, _, _, _, _, _, _, _, _, _, _, _, rfl, LE.l.pen.mono (by omega), fun z hz => (hT21 z hz).ext sE, fun _ => ⟨N, S, q, ns2, xs, as, rfl, rfl, rfl, ⟨q0, q97, LE.l.pen.mono (by omega), (erM_at LE.l.nm).2, st7.len, st7.nd, st7.ok, hSE.list, hSE.all, st7.names, st7.ent⟩⟩⟩
    · rintro σ H2 ⟨y2, y3, y4, y5, y6, y7, y8, y9, y10, y11, y12, y13, y14, y15, y16, y17, y18, y19, rfl, pen2, hT2, have5⟩
      obtain ⟨N, S, q, ns2, xs, as, rfl, rfl, rfl, st2⟩ := have5 (by decide)
      clear have5 pen2
      -- the runs after the turns
      refine ⟨fun σ H7 => ∃ (R : Addr) (zs : List V) (fa : V → Act), σ = [some (.ref a), some (.ref p), y2, some (.int q), some (.ref N), some (.ref S), some (.ref R), y7, y8, y9, y10, y11, y12, y13, y14, y15, y16, y17, y18, y19] ∧ Sta K p c 70000 H7 N S q ns2 xs as ∧ H7 R = some (.lst zs) ∧ ActVs K H7 zs (zs.map fa) ∧ RunsOf ns2 (zs.map fa) ∧ zs.length ≤ 84, ?_, ?_⟩
      · dsimp only [tAsg]
        refine lcOver (fun J H0 => ∃ N0 : Nat, J = Itr 0 N0 ∧ N0 ≤ 84 ∧ Kp p H2 H0 ∧ PenAt H0 p c 40001) (fun S0 hS => ⟨_, rfl, p, c, 60, _, rfl, by decide, by decide, st2.pen, by decide, fun r H7 r0 r6 k7 pen7 => ⟨25, r, rfl, rfl, 25 + r, rfl, by omega, by omega, hS _ _ ⟨(25 + r).toNat, rfl, by omega, k7, pen7⟩⟩⟩) ?_
        rintro J H0 ⟨N0, rfl, hN0, k0, pen0⟩
        have st0 := st2.kp k0 pen0
        have hnl := st0.len
        refine lcMadeW (n := N0) (J := Itr 0 N0) (walk_range (lo := 0) (n := N0)) (fun m H' v => ∃ (z : Str) (d : PyData) (b : List Ins), z ∈ ns2 ∧ EffP b ∧ IsP d b ∧ ActV K H' v (.run z d b)) (fun m Ha Hb b v pena ka ⟨z, d, b, e1, e2, e3, e4⟩ => ⟨z, d, b, e1, e2, e3, e4.kp pena ka⟩) (fun S hS => hS) (fun H' k' => trivial) (by omega) 40001 8 pen0 (fun m x Hl Hl' hm kl penl hy S0 hS => ?_) fun R zs H7 nR hR zl hG k7 pen7 => ?_
        · obtain ⟨rfl, rfl⟩ := hy
          have few := Nat.mul_le_mul_left 8 (Nat.le_of_lt hm)
          refine ⟨rfl, _, rfl, _, rfl, p, c, N, _, ns2.map V.str, rfl, penl, by omega, kp_lst pen0 kl st0.nm, by rw [List.length_map, hnl]; decide, by rw [List.length_map, hnl]; decide, fun zv H8 hz k8 pen8 => ?_⟩
          obtain ⟨z, hz2, rfl⟩ := List.mem_map.mp hz
          refine ⟨_, rfl, p, c, 2, 2, _, rfl, by decide, by decide, by decide, by decide +kernel, pen8, by omega, fun F xs2 b H9 nF k9 pen9 hF hI fl => ⟨sl_of (show 3 ≤ 1000000 by decide), fun t nt => ?_⟩⟩
          have st := same_new nt (o := HO.tup [V.str "run", V.str z, V.ref F])
          obtain ⟨_, hp8⟩ := pen8.dk
          obtain ⟨d, hd, hp⟩ := pv_list (SqL.of (er_of hF fun ys e => by rw [nF] at e; cases e)) (hI.tp (er_tpk hp8 k9)).ivs
          refine hS _ _ (k8.trans (k9.trans (Same.kp st))) ((pen9.same st).mono (by omega)) fun D nD ⟨zs, eD⟩ => ?_
          have Dt : t ≠ D := fun y => by
            rw [← y, upd_same] at eD
            cases eD
          have eD9 : H9 D = some (.lst zs) := by rwa [upd_ne Dt.symm] at eD
          have Dp9 : D ≠ p := fun y => by
            obtain ⟨_, e⟩ := pen9.dk
            rw [← y, eD9] at e
            cases e
          have hD8 : H8 D = some (.lst zs) := by
            cases e : Hl' D with
            | none => exact absurd e nD
            | some o =>
              have e8 := k8 _ _ Dp9 e
              rw [k9 _ _ Dp9 e8] at eD9
              rw [e8, eD9]
          have sm : Same (er H8 H9) (er1 D (upd H9 t (.tup [V.str "run", V.str z, V.ref F]))) := fun b2 o e => by
            obtain ⟨e1, e2⟩ := er_at e
            refine er1_of (fun y => ?_) (st _ _ e1)
            rw [y] at e2
            exact e2 zs hD8
          exact ⟨z, d, b, hz2, ((fl.mid (by decide +kernel)).up (by decide) (by decide) (by decide)).eff, hp, t, .ref F, rfl, SqT.of (er1_of Dt upd_same), Dp.same sm hd, hp⟩
        · obtain ⟨rs, hrs, hof⟩ := acts_run (fun y hy => by
            obtain ⟨m, hm⟩ := List.getElem?_of_mem hy
            exact hG m y hm)
          have few : 8 * N0 ≤ 8 * 84 := Nat.mul_le_mul_left _ hN0
          exact ⟨R, zs, rs, rfl, (st0.kp k7 pen7).mono (by omega), hR, hrs, hof, by omega⟩
      rintro σ H7 ⟨R, zs, fa, rfl, st7, hR7, hrs7, hof, zl⟩
      clear st2 hT2
      obtain ⟨rs, ers⟩ : ∃ X, X = zs.map fa := ⟨_, rfl⟩
      rw [← ers] at hrs7 hof
      have tk := made_ok st7.names st7.nd st7.ok st7.ent hof
      have lg1 : Lgl (as ++ rs) := tk.lg
      have q0 := st7.q0
      have lenA : as.length = 3 := by rw [← enter_len st7.ent, st7.names, st7.len]
      have lenX : xs.length = 3 := by rw [st7.acts.length, lenA]
      have lenR : rs.length = zs.length := hrs7.length.symm
      -- a road, and what the effects tell
      refine ⟨fun σ H' => ∃ (r D T0 d s0 : Addr) (g : Pol), σ = [some (.ref a), some (.ref p), y2, some (.int q), some (.ref N), some (.ref S), some (.ref R), some (.ref r), y8, y9, some (.ref d), some (.ref s0), y12, y13, y14, y15, y16, y17, y18, y19] ∧ L98 K C p c 70000 (M3 p D T0) H' N ns2 r D T0 q [] [] ∧ HisAt K (M3 p D T0) H' S xs as ∧ HisAt K (M3 p D T0) H' R zs rs ∧ erM (M3 p D T0) H' d = some (.dK (kvOf g)) ∧ erM (M3 p D T0) H' s0 = some (.dK (stK (stO (as ++ rs)))) ∧ Nf q g (fun x => dlT 0 (as ++ rs) (as ++ rs).length x) ∧ g.length ≤ 250000, ?_, ?_⟩
      · refine ⟨_, rfl, ?_⟩
        intro r dx nr ndx nex
        have s1 : Same H7 (upd (upd H7 dx (.own r)) r (.ins C dx [])) := fun b o e => by
          rw [upd_ne (ne_of_none e nr), upd_ne (ne_of_none e ndx)]
          exact e
        refine ⟨r, dx, q, rfl, upd_same, fun D T0 H8 k8 nD nT DT hr8 hD8 hT8 => ⟨rfl, ?_⟩⟩
        have nD7 := none_before s1 nD
        have nT7 := none_before s1 nT
        have s8 : Same H7 H8 := fun b o e => k8 b o (ne_of_none e nr) (s1 _ _ e)
        obtain ⟨_, _, _, hpp7, hcc7, _⟩ := id st7.pen.ex
        have hp8 := s8 _ _ hpp7
        have rp : r ≠ p := (ne_of_none hpp7 nr).symm
        have out7 : ∀ {b : Addr} {o : HO}, b ≠ p → H7 b = some o → ¬ M3 p D T0 b := fun {b o} np e z => by
          rcases z with z | z | z
          · exact np z
          · rw [z, nD7] at e
            cases e
          · rw [z, nT7] at e
            cases e
        have k78 : Kp p H7 (erM (M3 p D T0) H8) := fun b o np e => erM_of (out7 np e) (s8 _ _ e)
        have Np : N ≠ p := fun z => by
          have := st7.nm
          rw [z, hpp7] at this
          cases this
        have cp : c ≠ p := fun z => by
          rw [z, hpp7] at hcc7
          cases hcc7
        have L8 : L98 K C p c 70000 (M3 p D T0) H8 N ns2 r D T0 q [] [] := ⟨st7.pen.same s8, RoadAt.made hr8 hD8 hT8 rp DT, M3.mok hp8 hD8 hT8, erM_of (out7 Np st7.nm) (s8 _ _ st7.nm), out7 cp hcc7⟩
        have hS8 : HisAt K (M3 p D T0) H8 S xs as := ⟨kp_lst st7.pen k78 st7.ls, ActVs.kp st7.pen k78 st7.acts⟩
        have hR8 : HisAt K (M3 p D T0) H8 R zs rs := ⟨kp_lst st7.pen k78 hR7, ActVs.kp st7.pen k78 hrs7⟩
        refine ⟨_, rfl, _, rfl, _, rfl, S, R, _, _, rfl, rfl, hS8.list, hR8.list, sl_of (show xs.length + zs.length ≤ 1000000 by omega), fun W nW => ?_⟩
        have sW := same_new nW (o := HO.lst (xs ++ zs))
        have L9 := L8.same sW
        have kW : Kst (M3 p D T0) H8 (upd H8 W (.lst (xs ++ zs))) := fun b o _ e => sW _ _ e
        have hX9 := paired_app (hS8.kst kW).all (hR8.kst kW).all
        have hS9 := hS8.kst kW
        have hR9 := hR8.kst kW
        have hW : upd H8 W (.lst (xs ++ zs)) W = some (.lst (xs ++ zs)) := upd_same
        generalize upd H8 W (.lst (xs ++ zs)) = H9 at L9 hW hX9 hS9 hR9
        refine ⟨q, W, _, _, rfl, q0, SqL.of hW, hX9, lg1, by rw [List.length_append]; omega, made_eff st7.ent hof, fun t d s g H10 s10 ht nd10 ns10 ds hd hs Ng lg => ?_⟩
        refine ⟨sl_of (show 2 ≤ 1000000 by decide), fun t2 nt2 => ?_⟩
        have st := same_new nt2 (o := HO.tup [V.ref r, V.ref t])
        have sE := s10.trans st
        have kE : Kst (M3 p D T0) H9 (upd H10 t2 (.tup [V.ref r, V.ref t])) := fun b o _ e => sE _ _ e
        refine ⟨t2, _, rfl, SqT.of upd_same, rfl, _, _, rfl, _, _, rfl, ⟨t, _, rfl, same_t st ht, rfl, _, _, rfl, _, _, rfl, rfl, rfl, ?_⟩⟩
        exact ⟨r, D, T0, d, s, g, rfl, L9.same sE, hS9.kst kE, hR9.kst kE, erM_of (fun z => L9.mok.there z nd10) (st _ _ hd), erM_of (fun z => L9.mok.there z ns10) (st _ _ hs), Ng, lg⟩
      rintro σ H8 ⟨r, D, T0, d, s0, g, rfl, L8, hS8, hR8, hd8, hs8, Ng, lgg⟩
      clear hR7 hrs7
      refine ⟨fun σ H' => ∃ (y9 : Option V), σ = [some (.ref a), some (.ref p), y2, some (.int q), some (.ref N), some (.ref S), some (.ref R), some (.ref r), y8, y9, some (.ref d), some (.ref s0), y12, y13, y14, y15, y16, y17, y18, y19] ∧ L98 K C p c 70000 (M3 p D T0) H' N ns2 r D T0 q (as ++ rs) [] ∧ erM (M3 p D T0) H' d = some (.dK (kvOf g)) ∧ erM (M3 p D T0) H' s0 = some (.dK (stK (stO (as ++ rs)))), ?_, ?_⟩
      · refine ⟨_, rfl, _, rfl, S, R, _, _, rfl, rfl, hS8.list, hR8.list, sl_of (show xs.length + zs.length ≤ 1000000 by omega), fun W nW => ?_⟩
        have sW := same_new nW (o := HO.lst (xs ++ zs))
        have L9 := L8.same sW
        have kW : Kst (M3 p D T0) H8 (upd H8 W (.lst (xs ++ zs))) := fun b o _ e => sW _ _ e
        have hW : erM (M3 p D T0) (upd H8 W (.lst (xs ++ zs))) W = some (.lst (xs ++ zs)) := erM_of (fun z => L8.mok.there z nW) upd_same
        have hX9 := paired_app (hS8.kst kW).acts (hR8.kst kW).acts
        have hd9 := kW.er _ _ hd8
        have hs9 := kW.er _ _ hs8
        generalize upd H8 W (.lst (xs ++ zs)) = H9 at L9 hW hX9 hd9 hs9
        have lx : (xs ++ zs).length = (as ++ rs).length := by rw [List.length_append, List.length_append, lenX, lenA, lenR]
        have l9 : (as ++ rs).length ≤ 87 := by rw [List.length_append]; omega
        refine ⟨W, rfl, ⟨_, SqL.of (erM_at hW).2⟩, for_list (K := K) (a := W) (xs := xs ++ zs) (fun j σ H' => ∃ (y9 : Option V), σ = [some (.ref a), some (.ref p), y2, some (.int q), some (.ref N), some (.ref S), some (.ref R), some (.ref r), y8, y9, some (.ref d), some (.ref s0), y12, y13, y14, y15, y16, y17, y18, y19] ∧ Kst (M3 p D T0) H9 H' ∧ L98 K C p c 70000 (M3 p D T0) H' N ns2 r D T0 q ((as ++ rs).take j) []) ⟨y9, rfl, Kst.refl _ _, L9⟩ ?_ ?_ ?_⟩
        · rintro j σ H' _ ⟨_, _, kM, _⟩
          exact SqL.of (erM_at (kM.er _ _ hW)).2
        · rintro j x σ H' hj ⟨y9, rfl, kM, L'⟩
          obtain ⟨aj, ha, hxa⟩ := ActVs.get hX9 hj
          have hxa' := hxa.same (kM.er.trans erM_le)
          have lt : ((as ++ rs).take j).length ≤ 87 := by
            rw [List.length_take]
            omega
          refine ⟨_, rfl, _, rfl, r, D, T0, p, q, (as ++ rs).take j, [], M3 p D T0, x, aj, rfl, L'.road, L'.mok, hxa', tk j aj ha, by omega, fun H'' k' mok' R' => ?_⟩
          rw [← take_snoc ha] at R'
          exact ⟨_, rfl, kM.trans (k'.sub (own_sub L'.road)), L'.own k' mok' R'⟩
        · rintro σ H' ⟨y9, rfl, kM, L'⟩
          rw [lx, List.take_length] at L'
          exact ⟨_, rfl, L', kM.er _ _ hd9, kM.er _ _ hs9⟩
      rintro σ H9 ⟨y9, rfl, L9, hd9, hs9⟩
      clear L8 hS8 hR8 hd8 hs8
      have near := nf_near lg1 (by rw [List.length_append]; omega) (Nat.le_refl _) Ng
      have q0' := q0
      refine ⟨fun σ H' => ∃ (Wr : Addr), σ = [some (.ref a), some (.ref p), y2, some (.int q), some (.ref N), some (.ref S), some (.ref R), some (.ref r), y8, y9, some (.ref d), some (.ref s0), y12, y13, y14, y15, y16, some (.ref Wr), y18, y19] ∧ L98 K C p c 70000 (M3 p D T0) H' N ns2 r D T0 q (as ++ rs) [] ∧ H' Wr = some (.lst []) ∧ erM (M3 p D T0) H' s0 = some (.dK (stK (stO (as ++ rs)))), ?_, ?_⟩
      · dsimp only [gName, tSeq, tAsg]
        refine lcNoNew (fun es => ∀ e ∈ es, ∃ x : Int, e = .int x ∧ x.natAbs ≤ 2 ^ 340) (fun R0 hR => ?_) (fun _ => rfl) (fun es hes e he H22 s22 S0 hS0 => ?_) fun Dl H22 s22 hDl => ?_
        · refine ⟨_, rfl, d, kvOf g, rfl, .inl (erM_at hd9).2, fun p1 np1 => ?_⟩
          have z1 := same_new np1 (o := HO.lst ((kvOf g).map fun kv => kV kv.1))
          refine ⟨_, rfl, -9, 10, rfl, rfl, by unfold RgOk; decide, fun p3 np3 => ?_⟩
          have z3 := same_new np3 (o := HO.lst (rgV (-9) 10))
          refine ⟨p1, p3, _, _, rfl, rfl, z3 _ _ upd_same, upd_same, sl_of (show ((kvOf g).map fun kv => kV kv.1).length + (rgV (-9) 10).length ≤ 1000000 by
            rw [List.length_map, show (kvOf g).length = g.length by unfold kvOf; rw [List.length_map], rgV_length]
            have : ((10 : Int) - (-9)).toNat = 19 := by decide
            omega), fun W nW => ?_⟩
          refine hR W _ _ (z1.trans (z3.trans (same_new nW))) upd_same fun e he => ?_
          rcases List.mem_append.mp he with he | he
          · rw [key_list] at he
            obtain ⟨x, hx, rfl⟩ := List.mem_map.mp he
            obtain ⟨t, ht, rfl⟩ := List.mem_map.mp hx
            exact ⟨_, rfl, near t ht⟩
          · obtain ⟨j, hj, rfl⟩ := List.mem_map.mp he
            have := List.mem_range.mp hj
            have e31 : ((10 : Int) - (-9)).toNat = 19 := by decide
            exact ⟨_, rfl, Nat.le_trans (show ((-9 : Int) + (j : Nat)).natAbs ≤ 31 by omega) (by decide +kernel)⟩
        · obtain ⟨x, rfl, hx⟩ := hes e he
          have L14 := L9.same s22
          obtain ⟨dx, hr0⟩ := L14.road.ob
          refine ⟨_, rfl, r, dx, _, rfl, hr0, ro_no _ _ _ (by decide +kernel), _, rfl, r, D, T0, q, as ++ rs, [], M3 p D T0, x, .non, (as ++ rs).length, rfl, L14.road, q0, .inl ⟨rfl, rfl⟩, hx, fun H15 s15 => ?_⟩
          have hd15 := s15 _ _ (s22 _ _ (erM_at hd9).2)
          refine ⟨_, rfl, d, rfl, .inl ⟨_, .inl hd15⟩, _, rfl, _, dget_any x hd15, ?_⟩
          rw [kv_getD g x (nf_nodup Ng), Ng.cof x]
          refine ⟨rfl, _, rfl, ?_⟩
          rw [decide_eq_true rfl]
          exact hS0 _ s15
        · have k22 : Kst (M3 p D T0) H9 H22 := fun b o _ e => s22 _ _ e
          exact ⟨Dl, rfl, L9.same s22, hDl, k22.er _ _ hs9⟩
      rintro σ H10 ⟨Wr, rfl, L10, hW10, hs10⟩
      refine ⟨_, rfl, Nat.zero_le _, fun e2 ne2 => ?_⟩
      have se := same_new ne2 (o := HO.lst [])
      refine ⟨.list [], .list [], .lst (SqL.of (se _ _ hW10)) .nil, .lst (SqL.of upd_same) .nil, rfl, rfl, ?_⟩
      have k2 : Kst (M3 p D T0) H10 (upd H10 e2 (.lst [])) := fun b o _ e => se _ _ e
      have LE := L10.same se
      have hsE := k2.er _ _ hs10
      have ln1 := sto_len lg1 st7.names hof
      obtain ⟨dx, hr0⟩ := LE.road.ob
      refine ⟨_, rfl, ?_⟩
      rw [if_pos (by decide)]
      refine ⟨_, rfl, r, dx, _, rfl, hr0, ro_no _ _ _ (by decide +kernel), r, D, T0, q, as ++ rs, [], M3 p D T0, .non, (as ++ rs).length, rfl, LE.road, .inl ⟨rfl, rfl⟩, by rw [List.take_length, ln1, st7.len]; decide, fun S1 ns1 H12 s12 nS1 pm1 _ hS1 => ?_⟩
      rw [List.take_length] at pm1 hS1
      obtain ⟨q1, q2⟩ := spots_eq pm1 (fun _ => rfl) rfl
      have k12 : Kst (M3 p D T0) _ H12 := fun b o _ e => s12 _ _ e
      have hs12 := k12.er _ _ hsE
      refine ⟨_, rfl, S1, s0, _, _, rfl, rfl, hS1, (erM_at hs12).2, q1, q2, ?_⟩
      exact k _
end
theorem all_mk {l : PySem.W.OpenLaw} {w : World} {K : PySem.W.Frag} {mg : Str → Option Value} {fa c Pt : Addr} (hfa : mg "law" = some (.ref fa)) (B : Blt mg)
    (D_is_whole : Df K mg "is_whole" s_is_whole)
    (D_common_divisor : Df K mg "common_divisor" s_common_divisor)
    (D_from_sums : Df K mg "from_sums" s_from_sums)
    (D_normalize : Df K mg "normalize" s_normalize)
    (D_add : Df K mg "add" s_add)
    (D_move : Df K mg "move" s_move)
    (D_is_count : Df K mg "is_count" s_is_count)
    (D_is_step_or_turn : Df K mg "is_step_or_turn" s_is_step_or_turn)
    (D_begins_as_repeat : Df K mg "begins_as_repeat" s_begins_as_repeat)
    (D_sizes_of : Df K mg "sizes_of" s_sizes_of)
    (D_is_program : Df K mg "is_program" s_is_program)
    (D_copied : Df K mg "copied" s_copied)
    (D_shift_of : Df K mg "shift_of" s_shift_of)
    (D_executed : Df K mg "executed" s_executed)
    (D_unrolled : Df K mg "unrolled" s_unrolled)
    (D_effect_of : Df K mg "effect_of" s_effect_of)
    (D_repeated : Df K mg "repeated" s_repeated)
    (D_terms_of : Df K mg "terms_of" s_terms_of)
    (D_pairs_at : Df K mg "pairs_at" s_pairs_at)
    (D_ways_at : Df K mg "ways_at" s_ways_at)
    (D_value_of : Df K mg "value_of" s_value_of)
    (D_is_name : Df K mg "is_name" s_is_name)
    (D_compose : Df K mg "compose" s_compose)
    (D_apply : Df K mg "apply" s_apply)
    (D__law_pen : Df K mg "_law_pen" s__law_pen)
    (D__law_draw : Df K mg "_law_draw" s__law_draw)
    (D__law_pick : Df K mg "_law_pick" s__law_pick)
    (D__law_prime : Df K mg "_law_prime" s__law_prime)
    (D__law_integer : Df K mg "_law_integer" s__law_integer)
    (D__law_word : Df K mg "_law_word" s__law_word)
    (D__law_body : Df K mg "_law_body" s__law_body)
    (D__law_program : Df K mg "_law_program" s__law_program)
    (D__law_calls : Df K mg "_law_calls" s__law_calls)
    (D__law_act : Df K mg "_law_act" s__law_act)
    (D__law_applied : Df K mg "_law_applied" s__law_applied)
    (G_GREATEST_COUNT : ∃ u, mg "GREATEST_COUNT" = some u ∧ ∃ tk, u = Value.int 1000000000000000000000000000000 tk)
    (G_MOST_INSTRUCTIONS : ∃ u, mg "MOST_INSTRUCTIONS" = some u ∧ ∃ tk, u = Value.int 100 tk)
    (G_MOST_REPEATS : ∃ u, mg "MOST_REPEATS" = some u ∧ ∃ tk, u = Value.int 5 tk)
    (G_DEEPEST : ∃ u, mg "DEEPEST" = some u ∧ ∃ tk, u = Value.int 2 tk)
    (G_LONGEST_RUN : ∃ u, mg "LONGEST_RUN" = some u ∧ ∃ tk, u = Value.int 10000 tk)
    (G_LETTERS : ∃ u, mg "LETTERS" = some u ∧ ∃ tk, u = Value.str "abcdefghijklmnopqrstuvwxyz" tk)
    (G_LONGEST_NAME : ∃ u, mg "LONGEST_NAME" = some u ∧ ∃ tk, u = Value.int 8 tk)
    (ZY : ∃ C, RoRaw K mg C)
    (D_law : DfC K mg "law" s_law c) : ∃ fd : FuncData, (∀ (s : Shared) (v : Value), BindsTo s fd ⟨[v], []⟩ [("_law_script", v)]) ∧ ∀ base : Heap, K.In base → base.Ns mainGlobals mg → Sys base → (∀ t ∈ [(c, Pt)], LamX.TabB base mg t.1 t.2) → Kept l.prog w K mg base fa fd ["_law_script"] (sp_lawT Pt K) := by
  obtain ⟨_, G_GREATEST_COUNT, tk_G_GREATEST_COUNT, rfl⟩ := G_GREATEST_COUNT
  obtain ⟨_, G_MOST_INSTRUCTIONS, tk_G_MOST_INSTRUCTIONS, rfl⟩ := G_MOST_INSTRUCTIONS
  obtain ⟨_, G_MOST_REPEATS, tk_G_MOST_REPEATS, rfl⟩ := G_MOST_REPEATS
  obtain ⟨_, G_DEEPEST, tk_G_DEEPEST, rfl⟩ := G_DEEPEST
  obtain ⟨_, G_LONGEST_RUN, tk_G_LONGEST_RUN, rfl⟩ := G_LONGEST_RUN
  obtain ⟨_, G_LETTERS, tk_G_LETTERS, rfl⟩ := G_LETTERS
  obtain ⟨_, G_LONGEST_NAME, tk_G_LONGEST_NAME, rfl⟩ := G_LONGEST_NAME
  obtain ⟨C, R⟩ := ZY
  refine law_ofT hfa D_law (fun _ _ _ _ _ _ s v => .of_eq rfl) fun base hb TB f fd F => ?_
  have C_is_whole : Cal l.prog w K mg base 1 "is_whole" (sp_is_whole K) := cal_of (ps := ["value"]) D_is_whole (fun _ _ _ _ _ _ us hl => match us, hl with | [_], _ => rfl) fun f fd F => ok_is_whole F B
  have C_common_divisor : Cal l.prog w K mg base 1 "common_divisor" sp_common_divisor := cal_of (ps := ["one", "other"]) D_common_divisor (fun _ _ _ _ _ _ us hl => match us, hl with | [_, _], _ => rfl) fun f fd F => ok_common_divisor F B
  have C_from_sums : Cal l.prog w K mg base 1 "from_sums" (sp_from_sumsP K) := cal_of (ps := ["prime", "sums"]) D_from_sums (fun _ _ _ _ _ _ us hl => match us, hl with | [_, _], _ => rfl) fun f fd F => ok_from_sums F B
  have C_normalize : Cal l.prog w K mg base 2 "normalize" (sp_normalizeP K) := cal_of (ps := ["prime", "pairs"]) D_normalize (fun _ _ _ _ _ _ us hl => match us, hl with | [_, _], _ => rfl) fun f fd F => ok_normalize F B C_from_sums
  have C_add : Cal l.prog w K mg base 3 "add" (sp_add K) := cal_of (ps := ["prime", "one", "other"]) D_add (fun _ _ _ _ _ _ us hl => match us, hl with | [_, _, _], _ => rfl) fun f fd F => ok_add F B (C_normalize.wk nrm_imp)
  have C_move : Cal l.prog w K mg base 1 "move" (sp_move K) := cal_of (ps := ["polynomial", "places"]) D_move (fun _ _ _ _ _ _ us hl => match us, hl with | [_, _], _ => rfl) fun f fd F => ok_move F B
  have C_is_count : Cal l.prog w K mg base 2 "is_count" (sp_is_count K) := cal_of (ps := ["value"]) D_is_count (fun _ _ _ _ _ _ us hl => match us, hl with | [_], _ => rfl) fun f fd F => ok_is_count F B G_GREATEST_COUNT C_is_whole
  have C_is_countZ : Cal l.prog w K mg base 2 "is_count" sp_is_countZ := cal_of (ps := ["value"]) D_is_count (fun _ _ _ _ _ _ us hl => match us, hl with | [_], _ => rfl) fun f fd F => ok_is_countZ F B G_GREATEST_COUNT C_is_whole
  have C_is_step_or_turn : Cal l.prog w K mg base 3 "is_step_or_turn" (sp_is_step_or_turn K) := cal_of (ps := ["value"]) D_is_step_or_turn (fun _ _ _ _ _ _ us hl => match us, hl with | [_], _ => rfl) fun f fd F => ok_is_step_or_turn F B C_is_count
  have C_begins_as_repeat : Cal l.prog w K mg base 3 "begins_as_repeat" (sp_begins_as_repeat K) := cal_of (ps := ["value"]) D_begins_as_repeat (fun _ _ _ _ _ _ us hl => match us, hl with | [_], _ => rfl) fun f fd F => ok_begins_as_repeat F B C_is_count
  have C_sizes_of : Cal l.prog w K mg base (3 + 3) "sizes_of" (sp_sizes_of K 3) := cal_rec (ps := ["value", "depth"]) 3 (sp := sp_sizes_of K) D_sizes_of (fun _ _ _ _ _ _ us hl => match us, hl with | [_, _], _ => rfl) (fun vs H Q E h => by obtain ⟨_, _, _, _, _, z, _⟩ := h; exact absurd z (Nat.not_lt_zero _)) (fun k C f fd F => ok_sizes_of k C F B G_MOST_INSTRUCTIONS G_MOST_REPEATS C_is_step_or_turn C_begins_as_repeat) 3
  have C_is_program : Cal l.prog w K mg base 7 "is_program" (sp_is_program K) := cal_of (ps := ["value"]) D_is_program (fun _ _ _ _ _ _ us hl => match us, hl with | [_], _ => rfl) fun f fd F => ok_is_program F B G_DEEPEST C_sizes_of
  have C_copied : Cal l.prog w K mg base (3 + 0) "copied" (sp_copied K 3) := cal_rec (ps := ["program"]) 0 (sp := sp_copied K) D_copied (fun _ _ _ _ _ _ us hl => match us, hl with | [_], _ => rfl) (fun vs H Q E h => by obtain ⟨_, _, _, _, _, _, z, _⟩ := h; exact absurd z (Nat.not_lt_zero _)) (fun k C f fd F => ok_copied k C F B) 3
  have C_shift_of : Cal l.prog w K mg base (3 + 0) "shift_of" (sp_shift_of K 3) := cal_rec (ps := ["program"]) 0 (sp := sp_shift_of K) D_shift_of (fun _ _ _ _ _ _ us hl => match us, hl with | [_], _ => rfl) (fun vs H Q E h => by obtain ⟨_, _, _, _, z, _⟩ := h; exact absurd z (Nat.not_lt_zero _)) (fun k C f fd F => ok_shift_of k C F B) 3
  have C_executed : Cal l.prog w K mg base (3 + 0) "executed" (sp_executed K 3) := cal_rec (ps := ["program"]) 0 (sp := sp_executed K) D_executed (fun _ _ _ _ _ _ us hl => match us, hl with | [_], _ => rfl) (fun vs H Q E h => by obtain ⟨_, _, _, _, z, _⟩ := h; exact absurd z (Nat.not_lt_zero _)) (fun k C f fd F => ok_executed k C F B) 3
  have C_unrolled : Cal l.prog w K mg base (3 + 0) "unrolled" (sp_unrolled K 3) := cal_rec (ps := ["program"]) 0 (sp := sp_unrolled K) D_unrolled (fun _ _ _ _ _ _ us hl => match us, hl with | [_], _ => rfl) (fun vs H Q E h => by obtain ⟨_, _, _, _, z, _⟩ := h; exact absurd z (Nat.not_lt_zero _)) (fun k C f fd F => ok_unrolled k C F B) 3
  have C_effect_of : Cal l.prog w K mg base 4 "effect_of" (sp_effect_ofE K) := cal_of (ps := ["prime", "program"]) D_effect_of (fun _ _ _ _ _ _ us hl => match us, hl with | [_, _], _ => rfl) fun f fd F => ok_effect_of F B G_LONGEST_RUN (C_from_sums.wk fsum_imp) C_executed C_unrolled
  have C_repeated : Cal l.prog w K mg base 1 "repeated" (sp_repeatedS K) := cal_of (ps := ["term", "count", "stride"]) D_repeated (fun _ _ _ _ _ _ us hl => match us, hl with | [_, _, _], _ => rfl) fun f fd F => ok_repeated F B
  have C_terms_of : Cal l.prog w K mg base (3 + 3) "terms_of" (sp_terms_ofS K 3) := cal_rec (ps := ["program", "place"]) 3 (sp := sp_terms_ofS K) D_terms_of (fun _ _ _ _ _ _ us hl => match us, hl with | [_, _], _ => rfl) (fun vs H Q E h => by obtain ⟨_, _, _, _, _, z, _⟩ := h; exact absurd z (Nat.not_lt_zero _)) (fun k C f fd F => ok_terms_of k C F B C_shift_of C_repeated) 3
  have C_pairs_at : Cal l.prog w K mg base 2 "pairs_at" (sp_pairs_at K) := cal_of (ps := ["one", "other", "distance"]) D_pairs_at (fun _ _ _ _ _ _ us hl => match us, hl with | [_, _, _], _ => rfl) fun f fd F => ok_pairs_at F B C_common_divisor
  have C_ways_at : Cal l.prog w K mg base 3 "ways_at" (sp_ways_at K) := cal_of (ps := ["rounds", "distance"]) D_ways_at (fun _ _ _ _ _ _ us hl => match us, hl with | [_, _], _ => rfl) fun f fd F => ok_ways_at F B C_pairs_at
  have C_value_of : Cal l.prog w K mg base 4 "value_of" (sp_value_of K) := cal_of (ps := ["prime", "terms", "place"]) D_value_of (fun _ _ _ _ _ _ us hl => match us, hl with | [_, _, _], _ => rfl) fun f fd F => ok_value_of F B C_ways_at
  have C_is_name : Cal l.prog w K mg base 1 "is_name" sp_is_name := cal_of (ps := ["value"]) D_is_name (fun _ _ _ _ _ _ us hl => match us, hl with | [_], _ => rfl) fun f fd F => ok_is_name F B G_LETTERS G_LONGEST_NAME
  have T := R.cl
  have MK_Road : MkF l.prog w K mg base "Road" C 1 (sp_road C) := mkRo_of R
  have M_perform : MetC CX0 l.prog w K mg base C 1 "perform" (sp_perform K C) := met_of (ps := ["self", "action"]) R.m_perform (fun _ _ _ _ _ _ us hl => match us, hl with | [_, _], _ => rfl) fun f fd F => ok_Road_perform F T
  have M_has_walker : MetC CX0 l.prog w K mg base C 1 "has_walker" (sp_has_walker K C) := met_of (ps := ["self", "name"]) R.m_has_walker (fun _ _ _ _ _ _ us hl => match us, hl with | [_, _], _ => rfl) fun f fd F => ok_Road_has_walker F T
  have M_enter : MetC CX0 l.prog w K mg base C 3 "enter" (sp_enter K C) := met_of (ps := ["self", "name", "place"]) R.m_enter (fun _ _ _ _ _ _ us hl => match us, hl with | [_, _, _], _ => rfl) fun f fd F => ok_Road_enter F B T C_is_name C_is_countZ M_has_walker M_perform
  have M_run : MetC CX0 l.prog w K mg base C 8 "run" (sp_run K C) := met_of (ps := ["self", "name", "program"]) R.m_run (fun _ _ _ _ _ _ us hl => match us, hl with | [_, _, _], _ => rfl) fun f fd F => ok_Road_run F B T C_is_program C_copied M_has_walker M_perform
  have M_number_of : MetC CX0 l.prog w K mg base C 2 "number_of" (sp_number_of K C) := met_of (ps := ["self", "moment"]) R.m_number_of (fun _ _ _ _ _ _ us hl => match us, hl with | [_, _], _ => rfl) fun f fd F => ok_Road_number_of F B T C_is_whole
  have M_replayed : MetC CX0 l.prog w K mg base C 7 "replayed" (sp_replayed K C) := met_of (ps := ["self", "first", "last"]) R.m_replayed (fun _ _ _ _ _ _ us hl => match us, hl with | [_, _, _], _ => rfl) fun f fd F => ok_Road_replayed F B T C_terms_of C_shift_of
  have M_dial : MetD CX0 l.prog w K mg base C 8 "dial" [] (sp_dial K C) := metd_of (ps := ["self", "place", "moment"]) (dvs := [.non]) R.m_dial 3 1 (List.cons_ne_nil _ _) rfl (fun _ _ _ _ _ _ _ us its hl hi => match us, hl, its, hi with | [_, _, _], _, [_], _ => ⟨_, rfl, rfl⟩) fun f fd F => ok_Road_dial F B T C_value_of M_number_of M_replayed
  have N_dial : MetD CX0 l.prog w K mg base C 8 "dial" [.non] (sp_dial K C) := metd_of (ps := ["self", "place", "moment"]) (dvs := [.non]) R.m_dial 2 0 (List.cons_ne_nil _ _) rfl (fun _ _ _ _ _ _ _ us its hl hi => match us, hl, its, hi with | [_, _], _, [_], _ => ⟨_, rfl, rfl⟩) fun f fd F => ok_Road_dial F B T C_value_of M_number_of M_replayed
  have M_places : MetD CX0 l.prog w K mg base C 8 "places" [] (sp_places K C) := metd_of (ps := ["self", "moment"]) (dvs := [.non]) R.m_places 2 1 (List.cons_ne_nil _ _) rfl (fun _ _ _ _ _ _ _ us its hl hi => match us, hl, its, hi with | [_, _], _, [_], _ => ⟨_, rfl, rfl⟩) fun f fd F => ok_Road_places F B T M_number_of M_replayed
  have N_places : MetD CX0 l.prog w K mg base C 8 "places" [.non] (sp_places K C) := metd_of (ps := ["self", "moment"]) (dvs := [.non]) R.m_places 1 0 (List.cons_ne_nil _ _) rfl (fun _ _ _ _ _ _ _ us its hl hi => match us, hl, its, hi with | [_], _, [_], _ => ⟨_, rfl, rfl⟩) fun f fd F => ok_Road_places F B T M_number_of M_replayed
  have C_compose : Cal l.prog w K mg base 4 "compose" (sp_compose K) := cal_of (ps := ["prime", "one", "other"]) D_compose (fun _ _ _ _ _ _ us hl => match us, hl with | [_, _, _], _ => rfl) fun f fd F => ok_compose F B C_add C_move
  have C_apply : Cal l.prog w K mg base 3 "apply" (sp_apply K) := cal_of (ps := ["prime", "effect", "dials", "place"]) D_apply (fun _ _ _ _ _ _ us hl => match us, hl with | [_, _, _, _], _ => rfl) fun f fd F => ok_apply F B C_normalize C_move
  have C__law_pen : Cal l.prog w K mg base 1 "_law_pen" (sp__law_pen K) := cal_of (ps := ["_law_script"]) D__law_pen (fun _ _ _ _ _ _ us hl => match us, hl with | [_], _ => rfl) fun f fd F => ok__law_pen F B
  have C__law_draw : Cal l.prog w K mg base 1 "_law_draw" sp__law_draw := cal_of (ps := ["_law_pen_here", "_law_many"]) D__law_draw (fun _ _ _ _ _ _ us hl => match us, hl with | [_, _], _ => rfl) fun f fd F => ok__law_draw F B
  have C__law_pick : Cal l.prog w K mg base 2 "_law_pick" sp__law_pick := cal_of (ps := ["_law_pen_here", "_law_options"]) D__law_pick (fun _ _ _ _ _ _ us hl => match us, hl with | [_, _], _ => rfl) fun f fd F => ok__law_pick F B C__law_draw
  have C__law_pickS : Cal l.prog w K mg base 2 "_law_pick" sp__law_pickS := cal_of (ps := ["_law_pen_here", "_law_options"]) D__law_pick (fun _ _ _ _ _ _ us hl => match us, hl with | [_, _], _ => rfl) fun f fd F => ok__law_pickS F B C__law_draw
  have C__law_prime : Cal l.prog w K mg base 3 "_law_prime" sp__law_prime := cal_of (ps := ["_law_pen_here"]) D__law_prime (fun _ _ _ _ _ _ us hl => match us, hl with | [_], _ => rfl) fun f fd F => ok__law_prime F B C__law_pick
  have C__law_integer : Cal l.prog w K mg base 2 "_law_integer" sp__law_integer := cal_of (ps := ["_law_pen_here", "_law_most"]) D__law_integer (fun _ _ _ _ _ _ us hl => match us, hl with | [_, _], _ => rfl) fun f fd F => ok__law_integer F B C__law_draw
  have C__law_word : Cal l.prog w K mg base 3 "_law_word" sp__law_word := cal_of (ps := ["_law_pen_here"]) D__law_word (fun _ _ _ _ _ _ us hl => match us, hl with | [_], _ => rfl) fun f fd F => ok__law_word F B C__law_draw C__law_pickS
  have C__law_body : Cal l.prog w K mg base 3 "_law_body" (sp__law_bodyG K) := cal_of (ps := ["_law_pen_here", "_law_most", "_law_reach"]) D__law_body (fun _ _ _ _ _ _ us hl => match us, hl with | [_, _, _], _ => rfl) fun f fd F => ok__law_body F B C__law_draw C__law_pick C__law_integer
  have C__law_program : Cal l.prog w K mg base 4 "_law_program" (sp__law_programM K) := cal_of (ps := ["_law_pen_here", "_law_most", "_law_reach", "_law_rounds"]) D__law_program (fun _ _ _ _ _ _ us hl => match us, hl with | [_, _, _, _], _ => rfl) fun f fd F => ok__law_program F B C__law_draw C__law_body
  have C__law_calls : Cal l.prog w K mg base 4 "_law_calls" sp__law_calls := cal_of (ps := ["_law_pen_here", "_law_many"]) D__law_calls (fun _ _ _ _ _ _ us hl => match us, hl with | [_, _], _ => rfl) fun f fd F => ok__law_calls F B C__law_draw C__law_pick C__law_word
  have C__law_act : Cal l.prog w K mg base 9 "_law_act" (sp__law_act K C) := cal_of (ps := ["_law_road", "_law_action"]) D__law_act (fun _ _ _ _ _ _ us hl => match us, hl with | [_, _], _ => rfl) fun f fd F => ok__law_act F B (T) M_enter M_run
  have C__law_applied : Cal l.prog w K mg base 5 "_law_applied" (sp__law_appliedR K) := cal_of (ps := ["_law_prime_here", "_law_actions"]) D__law_applied (fun _ _ _ _ _ _ us hl => match us, hl with | [_, _], _ => rfl) fun f fd F => ok__law_applied F B C_apply C_effect_of
  exact law_ok F TB B C__law_pen C__law_draw C__law_pick C__law_prime C__law_integer C__law_body C__law_program C__law_calls C__law_act C__law_applied C_compose C_effect_of C_apply T MK_Road M_run N_dial N_places
end DR
open PySem PySem.W PyProof.Rows
set_option maxRecDepth 100000 in
set_option maxHeartbeats 0 in
theorem PySem.Challenge.cw_dialroad_k95_whole_road_of_effects_holds : PySem.Challenge.rw_dialroad_k95_whole_road_of_effects.Holds := by
  w_on; o_law; k_head; (case hw => w_witness2)
  k_fill
  refine' DR.walk_keptT (l := PySem.Challenge.rw_dialroad_k95_whole_road_of_effects) (cs := [(?cc, ?PP)]) (sp := DR.sp_lawT ?PP) (x := "_law_script") rfl rfl rfl (fun w h Y => PySem.W.km_in_of Y) (fun w h Y => List.forall_mem_cons.mpr ⟨PySem.W.km_tabs_of Y _ List.mem_cons_self, fun _ z => nomatch z⟩) ?HO ?HC ?F fun K H a ns hl hT hS => ⟨a, ns, rfl, hT _ List.mem_cons_self, hS, hl, fun _ => rfl⟩
  case HO => exact fun w => List.forall_mem_cons.mpr ⟨by kernel_rfl, fun _ z => nomatch z⟩
  case HC => exact fun w => List.forall_mem_cons.mpr ⟨by kernel_rfl, fun _ z => nomatch z⟩
  case F =>
    intro w mg fa h KX G hmg
    refine' DR.all_mk hmg ⟨PySem.W.mg_none_of KX G ?z_tuple, PySem.W.mg_none_of KX G ?z_sorted, PySem.W.mg_none_of KX G ?z_range, PySem.W.mg_none_of KX G ?z_list, PySem.W.mg_none_of KX G ?z_len, PySem.W.mg_none_of KX G ?z_abs, PySem.W.mg_none_of KX G ?z_repr, PySem.W.mg_none_of KX G ?z_int, PySem.W.mg_none_of KX G ?z_bool, PySem.W.mg_none_of KX G ?z_dict, PySem.W.mg_none_of KX G ?z_min, PySem.W.mg_none_of KX G ?z_max, PySem.W.mg_none_of KX G ?z_zip, PySem.W.mg_none_of KX G ?z_all, PySem.W.mg_none_of KX G ?z_isinstance, PySem.W.mg_none_of KX G ?z_sum, PySem.W.mg_none_of KX G ?z_any, PySem.W.mg_none_of KX G ?z_str, PySem.W.mg_none_of KX G ?z_set, PySem.W.mg_none_of KX G ?z_reversed, PySem.W.mg_none_of KX G ?z_enumerate⟩ ?D_is_whole ?D_common_divisor ?D_from_sums ?D_normalize ?D_add ?D_move ?D_is_count ?D_is_step_or_turn ?D_begins_as_repeat ?D_sizes_of ?D_is_program ?D_copied ?D_shift_of ?D_executed ?D_unrolled ?D_effect_of ?D_repeated ?D_terms_of ?D_pairs_at ?D_ways_at ?D_value_of ?D_is_name ?D_compose ?D_apply ?D__law_pen ?D__law_draw ?D__law_pick ?D__law_prime ?D__law_integer ?D__law_word ?D__law_body ?D__law_program ?D__law_calls ?D__law_act ?D__law_applied ?G_GREATEST_COUNT ?G_MOST_INSTRUCTIONS ?G_MOST_REPEATS ?G_DEEPEST ?G_LONGEST_RUN ?G_LETTERS ?G_LONGEST_NAME ?ZY ?D_law
    (case G_GREATEST_COUNT => refine' ⟨?u0, PySem.W.mg_of KX G ?gz0, ?gy0⟩; (case gz0 => k_is); (case gy0 => exact ⟨_, rfl⟩))
    (case G_MOST_INSTRUCTIONS => refine' ⟨?u1, PySem.W.mg_of KX G ?gz1, ?gy1⟩; (case gz1 => k_is); (case gy1 => exact ⟨_, rfl⟩))
    (case G_MOST_REPEATS => refine' ⟨?u2, PySem.W.mg_of KX G ?gz2, ?gy2⟩; (case gz2 => k_is); (case gy2 => exact ⟨_, rfl⟩))
    (case G_DEEPEST => refine' ⟨?u3, PySem.W.mg_of KX G ?gz3, ?gy3⟩; (case gz3 => k_is); (case gy3 => exact ⟨_, rfl⟩))
    (case G_LONGEST_RUN => refine' ⟨?u4, PySem.W.mg_of KX G ?gz4, ?gy4⟩; (case gz4 => k_is); (case gy4 => exact ⟨_, rfl⟩))
    (case G_LETTERS => refine' ⟨?u5, PySem.W.mg_of KX G ?gz5, ?gy5⟩; (case gz5 => k_is); (case gy5 => exact ⟨_, rfl⟩))
    (case G_LONGEST_NAME => refine' ⟨?u6, PySem.W.mg_of KX G ?gz6, ?gy6⟩; (case gz6 => k_is); (case gy6 => exact ⟨_, rfl⟩))
    (case ZY => refine' ⟨?C, ⟨⟨⟨?rp, ?rh, ?ro, ?rs⟩, DR.no_attr ?ra, DR.no_attr ?rb, DR.no_attr ?rc, PySem.W.mg_of KX G ?rg⟩, ⟨?mf, _, ⟨?m1, ?m2, ?m3, ?m4⟩, L2.fun_mk (st := DR.s_Road___init__) ?ml ?mc ?mk⟩, ⟨⟨?q0f, _, L2.fun_mk (st := DR.s_Road_perform) ?q0l ?q0c ?q0k, ⟨?q0a, ?q0b, ?q0e⟩⟩⟩, ⟨⟨?q1f, _, L2.fun_mk (st := DR.s_Road_has_walker) ?q1l ?q1c ?q1k, ⟨?q1a, ?q1b, ?q1e⟩⟩⟩, ⟨⟨?q2f, _, L2.fun_mk (st := DR.s_Road_enter) ?q2l ?q2c ?q2k, ⟨?q2a, ?q2b, ?q2e⟩⟩⟩, ⟨⟨?q3f, _, L2.fun_mk (st := DR.s_Road_run) ?q3l ?q3c ?q3k, ⟨?q3a, ?q3b, ?q3e⟩⟩⟩, ⟨⟨?q4f, _, L2.fun_mk (st := DR.s_Road_number_of) ?q4l ?q4c ?q4k, ⟨?q4a, ?q4b, ?q4e⟩⟩⟩, ⟨⟨?q5f, _, L2.fun_mk (st := DR.s_Road_replayed) ?q5l ?q5c ?q5k, ⟨?q5a, ?q5b, ?q5e⟩⟩⟩, DR.dfd_mk (st := DR.s_Road_dial) ?d6l ?d6c ?d6k ?d6t ⟨?d6a, ?d6b, ?d6e⟩, DR.dfd_mk (st := DR.s_Road_places) ?d7l ?d7c ?d7k ?d7t ⟨?d7a, ?d7b, ?d7e⟩⟩⟩; (case rg => k_is); (case rp => k_is); (case rh => k_is); (case ro => k_is); (case rs => k_is); (case ra => k_is); (case rb => k_is); (case rc => k_is); (case m1 => k_is); (case m2 => k_is); (case m3 => k_is); (case m4 => k_is); (case ml => k_is); (case mc => k_is); (case mk => k_is); (case q0a => k_is); (case q0b => k_is); (case q0e => k_is); (case q0l => k_is); (case q0c => k_is); (case q0k => k_is); (case q1a => k_is); (case q1b => k_is); (case q1e => k_is); (case q1l => k_is); (case q1c => k_is); (case q1k => k_is); (case q2a => k_is); (case q2b => k_is); (case q2e => k_is); (case q2l => k_is); (case q2c => k_is); (case q2k => k_is); (case q3a => k_is); (case q3b => k_is); (case q3e => k_is); (case q3l => k_is); (case q3c => k_is); (case q3k => k_is); (case q4a => k_is); (case q4b => k_is); (case q4e => k_is); (case q4l => k_is); (case q4c => k_is); (case q4k => k_is); (case q5a => k_is); (case q5b => k_is); (case q5e => k_is); (case q5l => k_is); (case q5c => k_is); (case q5k => k_is); (case d6a => k_is); (case d6b => k_is); (case d6e => k_is); (case d6l => k_is); (case d6t => k_is); (case d6c => k_is); (case d6k => k_is); (case d7a => k_is); (case d7b => k_is); (case d7e => k_is); (case d7l => k_is); (case d7t => k_is); (case d7c => k_is); (case d7k => k_is))
    (case z_tuple => k_is)
    (case z_sorted => k_is)
    (case z_range => k_is)
    (case z_list => k_is)
    (case z_len => k_is)
    (case z_abs => k_is)
    (case z_repr => k_is)
    (case z_int => k_is)
    (case z_bool => k_is)
    (case z_dict => k_is)
    (case z_min => k_is)
    (case z_max => k_is)
    (case z_zip => k_is)
    (case z_all => k_is)
    (case z_isinstance => k_is)
    (case z_sum => k_is)
    (case z_any => k_is)
    (case z_str => k_is)
    (case z_set => k_is)
    (case z_reversed => k_is)
    (case z_enumerate => k_is)
    (case D_is_whole => refine' DR.df_mk KX G ?a ?l ?c ?k; (case a => k_is); (case l => k_is); (case c => k_is); (case k => k_is))
    (case D_common_divisor => refine' DR.df_mk KX G ?a ?l ?c ?k; (case a => k_is); (case l => k_is); (case c => k_is); (case k => k_is))
    (case D_from_sums => refine' DR.df_mk KX G ?a ?l ?c ?k; (case a => k_is); (case l => k_is); (case c => k_is); (case k => k_is))
    (case D_normalize => refine' DR.df_mk KX G ?a ?l ?c ?k; (case a => k_is); (case l => k_is); (case c => k_is); (case k => k_is))
    (case D_add => refine' DR.df_mk KX G ?a ?l ?c ?k; (case a => k_is); (case l => k_is); (case c => k_is); (case k => k_is))
    (case D_move => refine' DR.df_mk KX G ?a ?l ?c ?k; (case a => k_is); (case l => k_is); (case c => k_is); (case k => k_is))
    (case D_is_count => refine' DR.df_mk KX G ?a ?l ?c ?k; (case a => k_is); (case l => k_is); (case c => k_is); (case k => k_is))
    (case D_is_step_or_turn => refine' DR.df_mk KX G ?a ?l ?c ?k; (case a => k_is); (case l => k_is); (case c => k_is); (case k => k_is))
    (case D_begins_as_repeat => refine' DR.df_mk KX G ?a ?l ?c ?k; (case a => k_is); (case l => k_is); (case c => k_is); (case k => k_is))
    (case D_sizes_of => refine' DR.df_mk KX G ?a ?l ?c ?k; (case a => k_is); (case l => k_is); (case c => k_is); (case k => k_is))
    (case D_is_program => refine' DR.df_mk KX G ?a ?l ?c ?k; (case a => k_is); (case l => k_is); (case c => k_is); (case k => k_is))
    (case D_copied => refine' DR.df_mk KX G ?a ?l ?c ?k; (case a => k_is); (case l => k_is); (case c => k_is); (case k => k_is))
    (case D_shift_of => refine' DR.df_mk KX G ?a ?l ?c ?k; (case a => k_is); (case l => k_is); (case c => k_is); (case k => k_is))
    (case D_executed => refine' DR.df_mk KX G ?a ?l ?c ?k; (case a => k_is); (case l => k_is); (case c => k_is); (case k => k_is))
    (case D_unrolled => refine' DR.df_mk KX G ?a ?l ?c ?k; (case a => k_is); (case l => k_is); (case c => k_is); (case k => k_is))
    (case D_effect_of => refine' DR.df_mk KX G ?a ?l ?c ?k; (case a => k_is); (case l => k_is); (case c => k_is); (case k => k_is))
    (case D_repeated => refine' DR.df_mk KX G ?a ?l ?c ?k; (case a => k_is); (case l => k_is); (case c => k_is); (case k => k_is))
    (case D_terms_of => refine' DR.df_mk KX G ?a ?l ?c ?k; (case a => k_is); (case l => k_is); (case c => k_is); (case k => k_is))
    (case D_pairs_at => refine' DR.df_mk KX G ?a ?l ?c ?k; (case a => k_is); (case l => k_is); (case c => k_is); (case k => k_is))
    (case D_ways_at => refine' DR.df_mk KX G ?a ?l ?c ?k; (case a => k_is); (case l => k_is); (case c => k_is); (case k => k_is))
    (case D_value_of => refine' DR.df_mk KX G ?a ?l ?c ?k; (case a => k_is); (case l => k_is); (case c => k_is); (case k => k_is))
    (case D_is_name => refine' DR.df_mk KX G ?a ?l ?c ?k; (case a => k_is); (case l => k_is); (case c => k_is); (case k => k_is))
    (case D_compose => refine' DR.df_mk KX G ?a ?l ?c ?k; (case a => k_is); (case l => k_is); (case c => k_is); (case k => k_is))
    (case D_apply => refine' DR.df_mk KX G ?a ?l ?c ?k; (case a => k_is); (case l => k_is); (case c => k_is); (case k => k_is))
    (case D__law_pen => refine' DR.df_mk KX G ?a ?l ?c ?k; (case a => k_is); (case l => k_is); (case c => k_is); (case k => k_is))
    (case D__law_draw => refine' DR.df_mk KX G ?a ?l ?c ?k; (case a => k_is); (case l => k_is); (case c => k_is); (case k => k_is))
    (case D__law_pick => refine' DR.df_mk KX G ?a ?l ?c ?k; (case a => k_is); (case l => k_is); (case c => k_is); (case k => k_is))
    (case D__law_prime => refine' DR.df_mk KX G ?a ?l ?c ?k; (case a => k_is); (case l => k_is); (case c => k_is); (case k => k_is))
    (case D__law_integer => refine' DR.df_mk KX G ?a ?l ?c ?k; (case a => k_is); (case l => k_is); (case c => k_is); (case k => k_is))
    (case D__law_word => refine' DR.df_mk KX G ?a ?l ?c ?k; (case a => k_is); (case l => k_is); (case c => k_is); (case k => k_is))
    (case D__law_body => refine' DR.df_mk KX G ?a ?l ?c ?k; (case a => k_is); (case l => k_is); (case c => k_is); (case k => k_is))
    (case D__law_program => refine' DR.df_mk KX G ?a ?l ?c ?k; (case a => k_is); (case l => k_is); (case c => k_is); (case k => k_is))
    (case D__law_calls => refine' DR.df_mk KX G ?a ?l ?c ?k; (case a => k_is); (case l => k_is); (case c => k_is); (case k => k_is))
    (case D__law_act => refine' DR.df_mk KX G ?a ?l ?c ?k; (case a => k_is); (case l => k_is); (case c => k_is); (case k => k_is))
    (case D__law_applied => refine' DR.df_mk KX G ?a ?l ?c ?k; (case a => k_is); (case l => k_is); (case c => k_is); (case k => k_is))
    (case D_law => refine' DR.df_mkC KX G ?a ?l ?c2 ?k; (case a => k_is); (case l => k_is); (case c2 => k_is); (case k => k_is))
