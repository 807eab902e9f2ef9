import PyProof.Rows.All
import Wide.All
import OpenK.AllK
import Wide.FinOn
import HandS.Base
import HandS.Call
import HandS.List
import HandS.Comp
import HandS.Dict
import HandS.Iter
import HandS.Ends
import HandS.Words
import HandS.More
import HandS.Wide
import HandS.TupAny
import HandS.IsInst
import HandS.Zip
import HandS.Flow
import HandS.ForMost
import HandS.NoneIn
import HandS.SortInts
import PyProof.ReprRoads
import PyProof.ReprLen
import HandS.Text
import HandS.StrMore
import HandS.Style
import HandS.TupLe
import HandS.DictComp
import HandS.Small
import HandS.ExcIs
import HandS.WordsExc
import HandS.ExcOwn
import PyProof.ExcBaseAll.ArithmeticError
import PyProof.ExcBaseAll.ValueError
import KE.KExcInit
import HandS.ExcInit
import KE.KExcIs
import HandS.Walk
import HandS.ListItems
import HandS.Sort
import KE.KDictPairs
import PyProof.NeKinds
import HandS.ListEq
import HandS.DeepEq
import HandS.Conv
import HandS.DictTup
import KE.KeyNested
import KE.KDictKeyed
import KE.KDictWalk
import HandS.Spec
import HandS.Records
import KE.DataFind
import HandS.SetFor
import HandS.Strs
import HandS.TupSets
import HandS.TryOnly
import PyProof.StrBlock2
import PyProof.StrLawsRepr
import PyProof.EqKinds
import PyProof.Rows.IntBool
import PyProof.Rows.EqBoolInt
import HandS.Defaults
import HandS.OwnEq
import HandS.Codes
import PyProof.InstEq
import PyProof.InstNe
import HandS.Finally
import HandS.Rev
import HandS.FStr
import KE.GoesEnumKw
import HandS.SortKw
import KE.KNestM
import KE.KLam
import HandS.Lambda
import HandS.EndTab
import KE.SortKeyHeap
import HandS.Style
import KE.RegKIsAll
import KE.RegKTryMore
import KE.KExcLine
import HandS.IsInst
import PySem.Challenge.RW_dialroad_k96_roads_saved_and_loaded
set_option Elab.async false
set_option linter.all false
set_option maxRecDepth 100000
set_option maxHeartbeats 4000000
set_option exponentiation.threshold 500
/-! Polynomials as lists of pairs (exponent, coefficient): what they are worth, and when two of them are one. -/
namespace DR
abbrev Pol := List (Int × Int)
/-- the sum of the coefficients at e -/
def cf : Pol → Int → Int
  | [], _ => 0
  | t :: r, e => (if t.1 = e then t.2 else 0) + cf r e
theorem cf_nil (e : Int) : cf [] e = 0 := rfl
theorem cf_cons (t : Int × Int) (r : Pol) (e : Int) : cf (t :: r) e = (if t.1 = e then t.2 else 0) + cf r e := rfl
theorem cf_append : ∀ (f g : Pol) (e : Int), cf (f ++ g) e = cf f e + cf g e
  | [], g, e => by simp [cf]
  | t :: r, g, e => by
    rw [List.cons_append, cf_cons, cf_cons, cf_append r g e]
    omega
theorem cf_none : ∀ (f : Pol) (e : Int), (∀ t ∈ f, t.1 ≠ e) → cf f e = 0
  | [], _, _ => rfl
  | t :: r, e, h => by
    rw [cf_cons, if_neg (h t List.mem_cons_self), cf_none r e fun u hu => h u (List.mem_cons_of_mem _ hu)]
    rfl
theorem cf_ne {f : Pol} {e : Int} (h : cf f e ≠ 0) : ∃ t ∈ f, t.1 = e := by
  refine Classical.byContradiction fun q => h (cf_none f e fun t ht z => q ⟨t, ht, z⟩)
/-- canonical: ascending, coefficients from 1 to p - 1, worth F modulo p -/
structure Nf (p : Int) (g : Pol) (F : Int → Int) : Prop where
  asc : g.Pairwise fun x y => x.1 < y.1
  rng : ∀ t ∈ g, 0 < t.2 ∧ t.2 < p
  cof : ∀ e, cf g e = F e % p
theorem cf_head {t : Int × Int} {r : Pol} (h : (t :: r).Pairwise fun x y => x.1 < y.1) : cf (t :: r) t.1 = t.2 := by
  rw [cf_cons, if_pos rfl, cf_none r t.1 fun u hu z => ?_]
  · omega
  · have := (List.pairwise_cons.mp h).1 u hu
    omega
theorem asc_le {t : Int × Int} {r : Pol} (h : (t :: r).Pairwise fun x y => x.1 < y.1) {u : Int × Int} (hu : u ∈ t :: r) : t.1 ≤ u.1 := by
  rcases List.mem_cons.mp hu with e | e
  · rw [e]
    exact Int.le_refl _
  · exact Int.le_of_lt ((List.pairwise_cons.mp h).1 u e)
theorem cf_mem : ∀ {g : Pol}, (g.Pairwise fun x y => x.1 < y.1) → ∀ t ∈ g, cf g t.1 = t.2
  | [], _, t, h => absurd h List.not_mem_nil
  | u :: r, hp, t, h => by
    rcases List.mem_cons.mp h with e | e
    · rw [e]
      exact cf_head hp
    · have hlt := (List.pairwise_cons.mp hp).1 t e
      rw [cf_cons, if_neg (by omega), cf_mem (List.pairwise_cons.mp hp).2 t e]
      omega
theorem asc_ext : ∀ {g g' : Pol}, (g.Pairwise fun x y => x.1 < y.1) → (g'.Pairwise fun x y => x.1 < y.1) → (∀ t ∈ g, t.2 ≠ 0) → (∀ t ∈ g', t.2 ≠ 0) → (∀ e, cf g e = cf g' e) → g = g'
  | [], [], _, _, _, _, _ => rfl
  | [], u :: s, _, h', _, n', c => by
    have := c u.1
    rw [cf_head h'] at this
    exact absurd this.symm (n' u List.mem_cons_self)
  | t :: r, [], h, _, n, _, c => by
    have := c t.1
    rw [cf_head h] at this
    exact absurd this (n t List.mem_cons_self)
  | t :: r, u :: s, h, h', n, n', c => by
    have a1 : t.1 = u.1 := by
      have e1 := c t.1
      rw [cf_head h] at e1
      obtain ⟨x, hx, ex⟩ := cf_ne (f := u :: s) (e := t.1) (by rw [← e1]; exact n t List.mem_cons_self)
      have e2 := c u.1
      rw [cf_head h'] at e2
      obtain ⟨y, hy, ey⟩ := cf_ne (f := t :: r) (e := u.1) (by rw [e2]; exact n' u List.mem_cons_self)
      have l1 := asc_le h' hx
      have l2 := asc_le h hy
      omega
    have a2 : t.2 = u.2 := by
      have e1 := c t.1
      rw [cf_head h, a1, cf_head h'] at e1
      exact e1
    have e : t = u := Prod.ext a1 a2
    subst e
    congr 1
    refine asc_ext (List.pairwise_cons.mp h).2 (List.pairwise_cons.mp h').2 (fun x hx => n x (List.mem_cons_of_mem _ hx)) (fun x hx => n' x (List.mem_cons_of_mem _ hx)) fun e => ?_
    have := c e
    rw [cf_cons, cf_cons] at this
    omega
theorem Nf.uniq {p : Int} {g g' : Pol} {F F' : Int → Int} (a : Nf p g F) (b : Nf p g' F') (h : ∀ e, F e % p = F' e % p) : g = g' :=
  asc_ext a.asc b.asc (fun t ht => by have := a.rng t ht; omega) (fun t ht => by have := b.rng t ht; omega) fun e => by rw [a.cof, b.cof, h]
theorem Nf.to {p : Int} {g : Pol} {F F' : Int → Int} (a : Nf p g F) (h : ∀ e, F e % p = F' e % p) : Nf p g F' := ⟨a.asc, a.rng, fun e => by rw [a.cof, h]⟩
theorem Nf.self {p : Int} {g : Pol} {F : Int → Int} (a : Nf p g F) : Nf p g (cf g) := a.to fun e => by rw [a.cof, Int.emod_emod]
/-- every exponent of g is one of f's, where g is worth nothing where f has no exponent -/
theorem Nf.sub {p : Int} {g : Pol} {F : Int → Int} (a : Nf p g F) {L : List Int} (h : ∀ e, e ∉ L → F e % p = 0) : ∀ t ∈ g, t.1 ∈ L := fun t ht => by
  refine Classical.byContradiction fun n => ?_
  have e1 := a.cof t.1
  rw [cf_mem a.asc t ht, h _ n] at e1
  have := (a.rng t ht).1
  omega
theorem nd_len : ∀ {L M : List Int}, L.Nodup → (∀ x ∈ L, x ∈ M) → L.length ≤ M.length
  | [], M, _, _ => Nat.zero_le _
  | x :: L, M, h, s => by
    have hx : x ∈ M := s x List.mem_cons_self
    have n := (List.nodup_cons.mp h)
    have := nd_len (L := L) (M := M.erase x) n.2 fun y hy => by
      have hne : y ≠ x := fun e => n.1 (e ▸ hy)
      exact (List.mem_erase_of_ne hne).mpr (s y (List.mem_cons_of_mem _ hy))
    rw [List.length_erase_of_mem hx] at this
    have hp : 0 < M.length := List.length_pos_of_mem hx
    rw [List.length_cons]
    omega
theorem asc_nodup {g : Pol} (h : g.Pairwise fun x y => x.1 < y.1) : (g.map (·.1)).Nodup := by
  rw [List.nodup_iff_pairwise_ne, List.pairwise_map]
  exact h.imp fun q => by omega
theorem Nf.len {p : Int} {g : Pol} {F : Int → Int} (a : Nf p g F) {L : List Int} (h : ∀ e, e ∉ L → F e % p = 0) : g.length ≤ L.length := by
  have := nd_len (asc_nodup a.asc) (M := L) fun x hx => by
    obtain ⟨t, ht, rfl⟩ := List.mem_map.mp hx
    exact a.sub h t ht
  rw [List.length_map] at this
  exact this
theorem cf_out {f : Pol} {e : Int} (h : e ∉ f.map (·.1)) : cf f e = 0 := cf_none f e fun t ht z => h (z ▸ List.mem_map_of_mem ht)
/-! a dict of ints, by its pairs -/
def put : Pol → Int → Int → Pol
  | [], e, v => [(e, v)]
  | t :: r, e, v => if t.1 = e then (e, v) :: r else t :: put r e v
theorem put_keys : ∀ (m : Pol) (e v x : Int), x ∈ (put m e v).map (·.1) → x = e ∨ x ∈ m.map (·.1)
  | [], e, v, x, h => by
    have : x = e := by simpa [put] using h
    exact .inl this
  | t :: r, e, v, x, h => by
    unfold put at h
    split at h
    · rename_i q
      rcases List.mem_cons.mp h with z | z
      · exact .inl z
      · exact .inr (List.mem_cons_of_mem _ z)
    · rcases List.mem_cons.mp h with z | z
      · exact .inr (by rw [z]; exact List.mem_cons_self)
      · rcases put_keys r e v x z with w | w
        · exact .inl w
        · exact .inr (List.mem_cons_of_mem _ w)
theorem put_nodup : ∀ (m : Pol) (e v : Int), (m.map (·.1)).Nodup → ((put m e v).map (·.1)).Nodup
  | [], e, v, _ => by simp [put]
  | t :: r, e, v, h => by
    have h' : (t.1 :: r.map (·.1)).Nodup := h
    have n := List.nodup_cons.mp h'
    unfold put
    split
    · rename_i q
      show (e :: r.map (·.1)).Nodup
      rw [← q]
      exact h'
    · rename_i q
      show (t.1 :: (put r e v).map (·.1)).Nodup
      refine List.nodup_cons.mpr ⟨fun z => ?_, put_nodup r e v n.2⟩
      rcases put_keys r e v t.1 z with w | w
      · exact q w
      · exact n.1 w
theorem put_cf : ∀ (m : Pol) (e v x : Int), (m.map (·.1)).Nodup → cf (put m e v) x = if x = e then v else cf m x
  | [], e, v, x, _ => by
    show (if e = x then v else 0) + 0 = _
    by_cases q : x = e
    · rw [if_pos q, if_pos q.symm]
      omega
    · rw [if_neg q, if_neg (fun z => q z.symm)]
      rfl
  | t :: r, e, v, x, h => by
    have h' : (t.1 :: r.map (·.1)).Nodup := h
    have n := List.nodup_cons.mp h'
    unfold put
    split
    · rename_i q
      rw [cf_cons, cf_cons]
      by_cases z : x = e
      · rw [if_pos z, if_pos z.symm, cf_out (f := r) (e := x) (by rw [z, ← q]; exact n.1)]
        omega
      · rw [if_neg z, if_neg (fun w => z w.symm), if_neg (fun w => z (w.symm.trans q))]
    · rename_i q
      rw [cf_cons, cf_cons, put_cf r e v x n.2]
      by_cases z : x = e
      · rw [if_pos z, if_pos z, if_neg (by omega)]
        omega
      · rw [if_neg z, if_neg z]
theorem put_len : ∀ (m : Pol) (e v : Int), (put m e v).length ≤ m.length + 1
  | [], _, _ => Nat.le_refl _
  | t :: r, e, v => by
    unfold put
    split
    · exact Nat.le_succ _
    · have := put_len r e v
      rw [List.length_cons, List.length_cons]
      omega
/-! what the sorted keys give -/
def kept (p : Int) (F : Int → Int) (ys : List Int) : Pol := (ys.filter fun e => decide (F e % p ≠ 0)).map fun e => (e, F e % p)
theorem kept_cf (p : Int) (F : Int → Int) : ∀ (ys : List Int) (x : Int), ys.Nodup → cf (kept p F ys) x = if x ∈ ys then F x % p else 0
  | [], x, _ => by simp [kept, cf]
  | y :: r, x, h => by
    have n := List.nodup_cons.mp h
    have ih := kept_cf p F r x n.2
    have e : kept p F (y :: r) = (if F y % p ≠ 0 then [(y, F y % p)] else []) ++ kept p F r := by
      unfold kept
      rw [List.filter_cons]
      by_cases q : F y % p ≠ 0
      · simp [q]
      · have : F y % p = 0 := Classical.byContradiction q
        simp [this]
    rw [e, cf_append, ih]
    by_cases z : x = y
    · subst z
      rw [if_neg n.1, if_pos List.mem_cons_self]
      by_cases q : F x % p ≠ 0
      · rw [if_pos q]
        simp [cf]
      · rw [if_neg q]
        have : F x % p = 0 := Classical.byContradiction q
        rw [this]
        rfl
    · have : cf (if F y % p ≠ 0 then [(y, F y % p)] else []) x = 0 := by
        refine cf_none _ _ fun t ht w => ?_
        split at ht
        · have : t = (y, F y % p) := by simpa using ht
          rw [this] at w
          exact z w.symm
        · cases ht
      rw [this]
      by_cases q : x ∈ r
      · rw [if_pos q, if_pos (List.mem_cons_of_mem _ q)]
        omega
      · rw [if_neg q, if_neg (fun w => (List.mem_cons.mp w).elim z q)]
        rfl
theorem le_nd_lt : ∀ {ys : List Int}, ys.Pairwise (· ≤ ·) → ys.Nodup → ys.Pairwise (· < ·)
  | [], _, _ => .nil
  | y :: r, h, n => by
    have a := List.pairwise_cons.mp h
    have b := List.nodup_cons.mp n
    refine List.pairwise_cons.mpr ⟨fun z hz => ?_, le_nd_lt a.2 b.2⟩
    have := a.1 z hz
    have : y ≠ z := fun q => b.1 (q ▸ hz)
    omega
theorem kept_nf {p : Int} {F : Int → Int} {ys : List Int} (hp : 0 < p) (h : ys.Pairwise (· ≤ ·)) (n : ys.Nodup) (z : ∀ e, e ∉ ys → F e % p = 0) : Nf p (kept p F ys) F := by
  refine ⟨?_, fun t ht => ?_, fun e => ?_⟩
  · unfold kept
    rw [List.pairwise_map]
    exact (le_nd_lt h n).sublist List.filter_sublist
  · unfold kept at ht
    obtain ⟨e, he, rfl⟩ := List.mem_map.mp ht
    have q := of_decide_eq_true (List.mem_filter.mp he).2
    have h1 := Int.emod_nonneg (F e) (show p ≠ 0 by omega)
    have h2 := Int.emod_lt_of_pos (F e) hp
    exact ⟨by show 0 < F e % p; omega, h2⟩
  · rw [kept_cf p F ys e n]
    by_cases q : e ∈ ys
    · rw [if_pos q]
    · rw [if_neg q, z e q]
/-! the sums that the functions make -/
theorem cf_scale (k : Int) : ∀ (f : Pol) (e : Int), cf (f.map fun t => (t.1, t.2 * k)) e = cf f e * k
  | [], e => by simp [cf]
  | t :: r, e => by
    rw [List.map_cons, cf_cons, cf_cons, cf_scale k r e, Int.add_mul]
    show (if t.1 = e then t.2 * k else 0) + _ = _
    by_cases h : t.1 = e
    · rw [if_pos h, if_pos h]
    · rw [if_neg h, if_neg h, Int.zero_mul]
def moved (n : Int) (f : Pol) : Pol := f.map fun t => (t.1 + n, t.2)
theorem cf_moved (n : Int) : ∀ (f : Pol) (e : Int), cf (moved n f) e = cf f (e - n)
  | [], e => rfl
  | t :: r, e => by
    show (if t.1 + n = e then t.2 else 0) + cf (moved n r) e = (if t.1 = e - n then t.2 else 0) + cf r (e - n)
    rw [cf_moved n r e]
    by_cases h : t.1 + n = e
    · rw [if_pos h, if_pos (by omega)]
    · rw [if_neg h, if_neg (by omega)]
theorem Nf.moved {p : Int} {g : Pol} {F : Int → Int} (a : Nf p g F) (n : Int) : Nf p (moved n g) (fun e => F (e - n)) := by
  refine ⟨?_, fun t ht => ?_, fun e => by rw [cf_moved, a.cof]⟩
  · unfold DR.moved
    rw [List.pairwise_map]
    exact a.asc.imp fun q => by omega
  · obtain ⟨u, hu, rfl⟩ := List.mem_map.mp (show t ∈ g.map fun t => (t.1 + n, t.2) from ht)
    exact a.rng u hu
/-- 1 at 0, s, .., (n - 1) * s -/
def rounds (n : Nat) (s : Int) : Pol := (List.range n).map fun (m : Nat) => ((m : Int) * s, (1 : Int))
/-- a term times a polynomial; all products of two terms -/
def times (t : Int × Int) (g : Pol) : Pol := g.map fun u => (t.1 + u.1, t.2 * u.2)
def prods (f g : Pol) : Pol := f.flatMap fun t => times t g
end DR
/-! Products of polynomials: a ring without divisors of zero, modulo a prime. -/
namespace DR
/-- what the products of two polynomials are worth at e -/
def conv : Pol → (Int → Int) → Int → Int
  | [], _, _ => 0
  | t :: r, G, e => t.2 * G (e - t.1) + conv r G e
theorem cf_times (t : Int × Int) : ∀ (g : Pol) (e : Int), cf (times t g) e = t.2 * cf g (e - t.1)
  | [], e => by simp [times, cf]
  | u :: r, e => by
    show (if t.1 + u.1 = e then t.2 * u.2 else 0) + cf (times t r) e = t.2 * ((if u.1 = e - t.1 then u.2 else 0) + cf r (e - t.1))
    rw [cf_times t r e, Int.mul_add]
    by_cases h : t.1 + u.1 = e
    · rw [if_pos h, if_pos (by omega)]
    · rw [if_neg h, if_neg (by omega), Int.mul_zero]
theorem cf_prods : ∀ (f g : Pol) (e : Int), cf (prods f g) e = conv f (cf g) e
  | [], g, e => rfl
  | t :: r, g, e => by
    show cf (times t g ++ prods r g) e = _
    rw [cf_append, cf_times, cf_prods r g e]
    rfl
theorem conv_add (G G' : Int → Int) : ∀ (f : Pol) (e : Int), conv f (fun x => G x + G' x) e = conv f G e + conv f G' e
  | [], e => rfl
  | t :: r, e => by
    show t.2 * (G (e - t.1) + G' (e - t.1)) + conv r _ e = (t.2 * G (e - t.1) + conv r G e) + (t.2 * G' (e - t.1) + conv r G' e)
    rw [conv_add G G' r e, Int.mul_add]
    omega
theorem conv_congr {G G' : Int → Int} (h : ∀ x, G x = G' x) : ∀ (f : Pol) (e : Int), conv f G e = conv f G' e
  | [], e => rfl
  | t :: r, e => by
    show t.2 * G (e - t.1) + conv r G e = t.2 * G' (e - t.1) + conv r G' e
    rw [h, conv_congr h r e]
theorem conv_mod {p : Int} {G G' : Int → Int} (h : ∀ x, G x % p = G' x % p) : ∀ (f : Pol) (e : Int), conv f G e % p = conv f G' e % p
  | [], e => rfl
  | t :: r, e => by
    show (t.2 * G (e - t.1) + conv r G e) % p = (t.2 * G' (e - t.1) + conv r G' e) % p
    rw [Int.add_emod, Int.mul_emod, h, conv_mod h r e, ← Int.mul_emod, ← Int.add_emod]
theorem conv_smul (k : Int) (G : Int → Int) : ∀ (f : Pol) (e : Int), conv f (fun x => k * G x) e = k * conv f G e
  | [], e => by show (0 : Int) = k * 0; rw [Int.mul_zero]
  | t :: r, e => by
    show t.2 * (k * G (e - t.1)) + conv r _ e = k * (t.2 * G (e - t.1) + conv r G e)
    rw [conv_smul k G r e, Int.mul_add, Int.mul_left_comm]
/-- a single term added on the right -/
theorem conv_snd (u : Int × Int) (G : Int → Int) (f : Pol) (e : Int) : conv f (fun x => (if u.1 = x then u.2 else 0) + G x) e = u.2 * cf f (e - u.1) + conv f G e := by
  rw [conv_add]
  congr 1
  induction f with
  | nil => show (0 : Int) = u.2 * 0; rw [Int.mul_zero]
  | cons t r ih =>
    show t.2 * (if u.1 = e - t.1 then u.2 else 0) + conv r _ e = u.2 * ((if t.1 = e - u.1 then t.2 else 0) + cf r (e - u.1))
    rw [ih, Int.mul_add]
    by_cases h : u.1 = e - t.1
    · rw [if_pos h, if_pos (by omega), Int.mul_comm]
    · rw [if_neg h, if_neg (by omega), Int.mul_zero, Int.mul_zero]
theorem conv_zero : ∀ (f : Pol) (e : Int), conv f (fun _ => 0) e = 0
  | [], e => rfl
  | t :: r, e => by
    show t.2 * 0 + conv r _ e = 0
    rw [conv_zero r e, Int.mul_zero]
    rfl
/-- both ways about -/
theorem conv_comm : ∀ (g f : Pol) (e : Int), conv f (cf g) e = conv g (cf f) e
  | [], f, e => (conv_congr (G' := fun _ => 0) (fun _ => rfl) f e).trans (conv_zero f e)
  | u :: r, f, e => by
    show conv f (fun x => (if u.1 = x then u.2 else 0) + cf r x) e = u.2 * cf f (e - u.1) + conv r (cf f) e
    rw [conv_snd, conv_comm r f e]
/-- f counts by its worth alone, modulo p -/
theorem conv_fst {p : Int} {f f' : Pol} (h : ∀ x, cf f x % p = cf f' x % p) (g : Pol) (e : Int) : conv f (cf g) e % p = conv f' (cf g) e % p := by
  rw [conv_comm g f, conv_comm g f', conv_mod h g e]
theorem conv_append : ∀ (f f' : Pol) (G : Int → Int) (e : Int), conv (f ++ f') G e = conv f G e + conv f' G e
  | [], f', G, e => by show conv f' G e = 0 + conv f' G e; rw [Int.zero_add]
  | t :: r, f', G, e => by
    show t.2 * G (e - t.1) + conv (r ++ f') G e = (t.2 * G (e - t.1) + conv r G e) + conv f' G e
    rw [conv_append r f' G e]
    omega
theorem conv_times (t : Int × Int) (G : Int → Int) : ∀ (g : Pol) (e : Int), conv (times t g) G e = t.2 * conv g G (e - t.1)
  | [], e => by show (0 : Int) = t.2 * 0; rw [Int.mul_zero]
  | u :: r, e => by
    show (t.2 * u.2) * G (e - (t.1 + u.1)) + conv (times t r) G e = t.2 * (u.2 * G (e - t.1 - u.1) + conv r G (e - t.1))
    rw [conv_times t G r e, Int.mul_add, Int.mul_assoc, show e - (t.1 + u.1) = e - t.1 - u.1 by omega]
theorem conv_assoc : ∀ (f g : Pol) (G : Int → Int) (e : Int), conv (prods f g) G e = conv f (conv g G) e
  | [], g, G, e => rfl
  | t :: r, g, G, e => by
    show conv (times t g ++ prods r g) G e = t.2 * conv g G (e - t.1) + conv r (conv g G) e
    rw [conv_append, conv_times, conv_assoc r g G e]
theorem conv_moved (n : Int) (G : Int → Int) : ∀ (f : Pol) (e : Int), conv (moved n f) G e = conv f G (e - n)
  | [], e => rfl
  | t :: r, e => by
    show t.2 * G (e - (t.1 + n)) + conv (moved n r) G e = t.2 * G (e - n - t.1) + conv r G (e - n)
    rw [conv_moved n G r e, show e - (t.1 + n) = e - n - t.1 by omega]
theorem mul_emod_l (a b p : Int) : a % p * b % p = a * b % p := by rw [Int.mul_emod, Int.emod_emod, ← Int.mul_emod]
/-- the least exponents' term of a product -/
theorem conv_least {t u : Int × Int} {r s : Pol} (h : (t :: r).Pairwise fun x y => x.1 < y.1) (h' : (u :: s).Pairwise fun x y => x.1 < y.1) : conv (t :: r) (cf (u :: s)) (t.1 + u.1) = t.2 * u.2 := by
  show t.2 * cf (u :: s) (t.1 + u.1 - t.1) + conv r (cf (u :: s)) (t.1 + u.1) = t.2 * u.2
  rw [show t.1 + u.1 - t.1 = u.1 by omega, cf_head h']
  have : ∀ r : Pol, (∀ x ∈ r, t.1 < x.1) → conv r (cf (u :: s)) (t.1 + u.1) = 0 := by
    intro r
    induction r with
    | nil => intro _; rfl
    | cons x r ih =>
      intro hx
      show x.2 * cf (u :: s) (t.1 + u.1 - x.1) + conv r _ _ = 0
      rw [ih fun y hy => hx y (List.mem_cons_of_mem _ hy), cf_none (u :: s) _ fun y hy e => ?_, Int.mul_zero]
      · rfl
      · have l1 := asc_le h' hy
        have l2 := hx x List.mem_cons_self
        omega
  rw [this r (List.pairwise_cons.mp h).1]
  omega
/-- geometric sums close up -/
theorem rounds_succ (n : Nat) (s : Int) : rounds (n + 1) s = rounds n s ++ [((n : Int) * s, 1)] := by
  unfold rounds
  rw [List.range_succ, List.map_append]
  rfl
end DR
/-! Powers: the rounds of an effect added up, forwards and backwards. -/
namespace DR
def upF (F : Int → Int) (m : Int) : Nat → Int → Int
  | 0, _ => 0
  | n + 1, e => upF F m n e + F (e - (n : Int) * m)
def dnF (F : Int → Int) (m : Int) : Nat → Int → Int
  | 0, _ => 0
  | n + 1, e => dnF F m n e + F (e + ((n : Int) + 1) * m)
/-- what c rounds of an effect with the worth F and the shift m turn -/
def pwF (F : Int → Int) (m : Int) : Int → Int → Int
  | .ofNat n, e => upF F m n e
  | .negSucc n, e => - dnF F m (n + 1) e
theorem pw_zero (F : Int → Int) (m e : Int) : pwF F m 0 e = 0 := rfl
theorem pw_succ (F : Int → Int) (m : Int) : ∀ (c e : Int), pwF F m (c + 1) e = pwF F m c e + F (e - c * m)
  | .ofNat n, e => rfl
  | .negSucc 0, e => by
    show pwF F m (Int.negSucc 0 + 1) e = - (0 + F (e + ((0 : Int) + 1) * m)) + F (e - Int.negSucc 0 * m)
    rw [show Int.negSucc 0 + 1 = 0 from rfl, pw_zero, show Int.negSucc 0 = (-1 : Int) from rfl, show e - -1 * m = e + (0 + 1) * m by omega]
    omega
  | .negSucc (n + 1), e => by
    rw [show Int.negSucc (n + 1) + 1 = Int.negSucc n from rfl]
    show - dnF F m (n + 1) e = - (dnF F m (n + 1) e + F (e + (((n + 1 : Nat) : Int) + 1) * m)) + F (e - Int.negSucc (n + 1) * m)
    have h : Int.negSucc (n + 1) = -(((n + 1 : Nat) : Int) + 1) := by omega
    rw [h, Int.neg_mul, Int.sub_neg]
    omega
theorem int_ind {P : Int → Prop} (h0 : P 0) (hs : ∀ c, P c ↔ P (c + 1)) (c : Int) : P c := by
  have up : ∀ n : Nat, P (n : Int) := fun n => by
    induction n with
    | zero => exact h0
    | succ n ih =>
      have := (hs (n : Int)).mp ih
      exact this
  have dn : ∀ n : Nat, P (-(n : Int)) := fun n => by
    induction n with
    | zero => exact h0
    | succ n ih =>
      refine (hs _).mpr ?_
      rw [show -((n + 1 : Nat) : Int) + 1 = -(n : Int) by omega]
      exact ih
  by_cases h : 0 ≤ c
  · have := up c.toNat
    rw [Int.toNat_of_nonneg h] at this
    exact this
  · have := dn (-c).toNat
    rw [Int.toNat_of_nonneg (by omega), Int.neg_neg] at this
    exact this
theorem pw_add (F : Int → Int) (m a : Int) : ∀ (b e : Int), pwF F m (a + b) e = pwF F m a e + pwF F m b (e - a * m) := by
  intro b
  refine int_ind (P := fun b => ∀ e, pwF F m (a + b) e = pwF F m a e + pwF F m b (e - a * m)) (fun e => ?_) (fun c => ?_) b
  · rw [Int.add_zero, pw_zero, Int.add_zero]
  · have key : ∀ e, F (e - (a + c) * m) = F (e - a * m - c * m) := fun e => by
      congr 1
      rw [Int.add_mul]
      omega
    constructor
    · intro h e
      rw [← Int.add_assoc, pw_succ, pw_succ, h e, key]
      omega
    · intro h e
      have h' := h e
      rw [← Int.add_assoc, pw_succ, pw_succ, key] at h'
      omega
theorem pw_one (F : Int → Int) (m e : Int) : pwF F m 1 e = F e := by
  show 0 + F (e - ((0 : Nat) : Int) * m) = F e
  rw [Int.zero_add, show e - ((0 : Nat) : Int) * m = e by omega]
theorem conv_rounds (f : Pol) (m : Int) : ∀ (n : Nat) (e : Int), conv f (cf (rounds n m)) e = upF (cf f) m n e
  | 0, e => (conv_congr (G' := fun _ => 0) (fun _ => rfl) f e).trans (conv_zero f e)
  | n + 1, e => by
    have h : ∀ x, cf (rounds (n + 1) m) x = (if ((n : Int) * m, (1 : Int)).1 = x then ((n : Int) * m, (1 : Int)).2 else 0) + cf (rounds n m) x := fun x => by
      rw [rounds_succ, cf_append, cf_cons, cf_nil]
      omega
    rw [conv_congr h, conv_snd, conv_rounds f m n e]
    show 1 * cf f (e - (n : Int) * m) + upF (cf f) m n e = upF (cf f) m n e + cf f (e - (n : Int) * m)
    omega
theorem pw_rounds (f : Pol) (m : Int) {c : Int} (h : 0 ≤ c) (e : Int) : conv f (cf (rounds c.toNat m)) e = pwF (cf f) m c e := by
  obtain ⟨n, rfl⟩ : ∃ n : Nat, c = (n : Int) := ⟨c.toNat, by omega⟩
  rw [Int.toNat_natCast, conv_rounds]
  rfl
end DR
/-! What the laws of one document share: a few rules more of the hand layer, and polynomials in the heap. -/
namespace DR
open PySem PySem.Spec PyProof.Rows L2
/-! ### the law's own def is called once, by the caller alone: there no repr runs (guards), which FnOk can't say -/
/-- a promise kept where the law is called -/
def Kept (P : Program) (w : World) (K : PySem.W.Frag) (mg : Str → Option Value) (base : Heap) (f : Addr) (fd : FuncData) (ps : List Str) (sp : Sp) : Prop :=
  ∀ (s : Shared) (H : Hp) (args : Args) (us : List Value) (vs : List V) (Q : VK) (E : XK), Env0 P w K mg base callerA [] s H → BindsTo s fd args (ps.zip us) →
    Vals vs us → sp vs H Q E → codeAny (model P w) callerA (.call (.ref f) args) (CR CX0 [] P w H s Q E) s
/-- what the judge asks of the law's call -/
abbrev Passed (before : Shared) : Except Value Flow → Shared → Prop := fun r s' => r = .ok (.ret (.bool true)) ∧ OldK before.heap s'.heap ∧ s'.os = before.os ∧ AllBare s'.gens
/-- the names of the module and of the builtins, as they stand before the call -/
structure Stand (K : PySem.W.Frag) (mg mb : Str → Option Value) (before : Shared) : Prop where
  kin : K.In before.heap
  mod : before.heap.Ns mainGlobals mg
  std : before.heap.Ns builtinsNs mb
  boot : ∀ x : Str, x ≠ "__name__" → mb x = bootBuiltins x
  free : before.heap.NoLimit
  none : before.gens = #[]
end DR
namespace DR
open PySem PySem.Spec PyProof.Rows L2
/-! ### heaps -/
theorem same_new {H : Hp} {p : Addr} {o : HO} (h : H p = none) : Same H (upd H p o) := fun b u e => by
  rw [upd_ne (ne_of_none e h)]
  exact e
/-- what H does not know may change -/
theorem same_mut {H H' : Hp} {p : Addr} {o : HO} (s : Same H H') (h : H p = none) : Same H (upd H' p o) := fun b u e => by
  rw [upd_ne (ne_of_none e h)]
  exact s b u e
theorem same_t {K : PySem.W.Frag} {H H' : Hp} {a : Addr} {xs : List V} (e : Same H H') (h : SqT K H a xs) : SqT K H' a xs := by
  match h with
  | .inl (.inl z) => exact .inl (.inl (e _ _ z))
  | .inl (.inr ⟨u, z⟩) => exact .inl (.inr ⟨u, e _ _ z⟩)
  | .inr z => exact .inr z
theorem same_l {K : PySem.W.Frag} {H H' : Hp} {a : Addr} {xs : List V} (e : Same H H') (h : SqL K H a xs) : SqL K H' a xs := e.seq h
/-- all but what stands at p stays -/
def Kp (p : Addr) (H H' : Hp) : Prop := ∀ b o, b ≠ p → H b = some o → H' b = some o
theorem Kp.refl (p : Addr) (H : Hp) : Kp p H H := fun _ _ _ e => e
theorem Kp.trans {p : Addr} {H H1 H2 : Hp} (a : Kp p H H1) (b : Kp p H1 H2) : Kp p H H2 := fun c o n e => b c o n (a c o n e)
theorem Same.kp {p : Addr} {H H' : Hp} (s : Same H H') : Kp p H H' := fun b o _ e => s b o e
theorem Kp.upd {p : Addr} {H H' : Hp} {o : HO} (k : Kp p H H') : Kp p H (upd H' p o) := fun b u n e => by
  rw [upd_ne n]
  exact k b u n e
/-- tuples (and what is locked) stay: so every tuple of tuples and numbers does -/
structure Tp (H H' : Hp) : Prop where
  tup : ∀ b xs, H b = some (.tup xs) → H' b = some (.tup xs)
  frz : ∀ b o u, H b = some (.frz o u) → H' b = some (.frz o u)
theorem Same.tp {H H' : Hp} (s : Same H H') : Tp H H' := ⟨fun b xs e => s b _ e, fun b o u e => s b _ e⟩
theorem Tp.refl (H : Hp) : Tp H H := ⟨fun _ _ e => e, fun _ _ _ e => e⟩
theorem Tp.trans {H H1 H2 : Hp} (a : Tp H H1) (b : Tp H1 H2) : Tp H H2 := ⟨fun c xs e => b.tup c xs (a.tup c xs e), fun c o u e => b.frz c o u (a.frz c o u e)⟩
theorem Kp.tp {p : Addr} {H H' : Hp} {kvs : List (Key × V)} (k : Kp p H H') (h : H p = some (.dK kvs)) : Tp H H' :=
  ⟨fun b xs e => k b _ (ne_of e h (by intro z; cases z)) e, fun b o u e => k b _ (ne_of e h (by intro z; cases z)) e⟩
theorem tp_t {K : PySem.W.Frag} {H H' : Hp} {a : Addr} {xs : List V} (e : Tp H H') (h : SqT K H a xs) : SqT K H' a xs := by
  rcases h with (h | ⟨o, h⟩) | h
  · exact .inl (.inl (e.tup _ _ h))
  · exact .inl (.inr ⟨o, e.frz _ _ _ h⟩)
  · exact .inr h
/-- a list, a dict changes or a new thing comes -/
theorem tp_lst {H : Hp} {p : Addr} {xs : List V} {o : HO} (h : H p = some (.lst xs)) : Tp H (upd H p o) :=
  ⟨fun b ys e => by rw [upd_ne (ne_of e h (by intro z; cases z))]; exact e, fun b u v e => by rw [upd_ne (ne_of e h (by intro z; cases z))]; exact e⟩
theorem tp_new {H : Hp} {p : Addr} {o : HO} (h : H p = none) : Tp H (upd H p o) := Same.tp (same_new h)
/-! ### polynomials: tuples (or lists) of pairs of ints -/
def IsPr (K : PySem.W.Frag) (H : Hp) (x : V) (t : Int × Int) : Prop := ∃ a, x = V.ref a ∧ SqT K H a [.int t.1, .int t.2]
abbrev Prs (K : PySem.W.Frag) (H : Hp) : List V → Pol → Prop := Paired (IsPr K H)
def TPol (K : PySem.W.Frag) (H : Hp) (v : V) (f : Pol) : Prop := ∃ a xs, v = .ref a ∧ SqT K H a xs ∧ Prs K H xs f
def LPol (K : PySem.W.Frag) (H : Hp) (v : V) (f : Pol) : Prop := ∃ a xs, v = .ref a ∧ SqL K H a xs ∧ Prs K H xs f
section
variable {K : PySem.W.Frag} {H H' : Hp} {v x : V} {xs ys : List V} {f g : Pol} {t : Int × Int}
theorem IsPr.tp (e : Tp H H') (h : IsPr K H x t) : IsPr K H' x t := h.elim fun a z => ⟨a, z.1, tp_t e z.2⟩
theorem Prs.tp (e : Tp H H') : ∀ {xs : List V} {f : Pol}, Prs K H xs f → Prs K H' xs f
  | _, _, .nil => .nil
  | _, _, .cons r q => .cons (r.tp e) (Prs.tp e q)
theorem TPol.tp (e : Tp H H') (h : TPol K H v f) : TPol K H' v f := by
  obtain ⟨a, xs, rfl, hs, hp⟩ := h
  exact ⟨a, xs, rfl, tp_t e hs, Prs.tp e hp⟩
theorem LPol.same (e : Same H H') (h : LPol K H v f) : LPol K H' v f := by
  obtain ⟨a, xs, rfl, hs, hp⟩ := h
  exact ⟨a, xs, rfl, e.seq hs, Prs.tp (Same.tp e) hp⟩
theorem Prs.snoc : ∀ {xs : List V} {f : Pol}, Prs K H xs f → IsPr K H x t → Prs K H (xs ++ [x]) (f ++ [t])
  | _, _, .nil, h => .cons h .nil
  | _, _, .cons r q, h => .cons r (Prs.snoc q h)
theorem Prs.app : ∀ {xs : List V} {f : Pol}, Prs K H xs f → Prs K H ys g → Prs K H (xs ++ ys) (f ++ g)
  | _, _, .nil, h => h
  | _, _, .cons r q, h => .cons r (Prs.app q h)
theorem Prs.len (h : Prs K H xs f) : xs.length = f.length := Paired.length h
theorem Prs.get : ∀ {xs : List V} {f : Pol} {i : Nat} {x : V}, Prs K H xs f → xs[i]? = some x → ∃ t, f[i]? = some t ∧ IsPr K H x t
  | _, _, _, _, .nil, e => by simp at e
  | _, _, 0, _, .cons r _, e => by
    simp at e
    subst e
    exact ⟨_, rfl, r⟩
  | _, _, i + 1, x, .cons _ q, e => by
    obtain ⟨t, h1, h2⟩ := Prs.get (i := i) (x := x) q (by simpa using e)
    exact ⟨t, by simpa using h1, h2⟩
theorem isPr_new {p : Addr} {t : Int × Int} : IsPr K (upd H p (.tup [.int t.1, .int t.2])) (.ref p) t := ⟨p, rfl, SqT.of upd_same⟩
/-- as data -/
def pr (t : Int × Int) : PyData := .tuple [.int t.1, .int t.2]
def pd (f : Pol) : PyData := .tuple (f.map pr)
theorem IsPr.dp (h : IsPr K H x t) : Dp K H x (pr t) := by
  obtain ⟨a, rfl, hs⟩ := h
  exact .tup hs (.cons (.int _) (.cons (.int _) .nil))
theorem Prs.dp : ∀ {xs : List V} {f : Pol}, Prs K H xs f → DpAll K H xs (f.map pr)
  | _, _, .nil => .nil
  | _, _, .cons r q => .cons r.dp (Prs.dp q)
theorem TPol.dp (h : TPol K H v f) : Dp K H v (pd f) := by
  obtain ⟨a, xs, rfl, hs, hp⟩ := h
  exact .tup hs hp.dp
end
/-! ### how they are shown -/
theorem int_shows {i : Int} (h : i.natAbs < 10 ^ 100) : (PyData.int i).showable = true ∧ ((PyData.int i).shown).length ≤ 101 := by
  refine ⟨decide_eq_true (log2_small (Nat.lt_of_lt_of_le h (by decide +kernel))), ?_⟩
  have e := int_text_length_le10 (k := 100) (by decide) h
  show (Str.ofString (toString i)).length ≤ 101
  rw [PySem.ofString_length]
  exact e
/-- small enough to be shown -/
structure Sm (f : Pol) : Prop where
  len : f.length ≤ 50000
  abs : ∀ t ∈ f, t.1.natAbs < 10 ^ 100 ∧ t.2.natAbs < 10 ^ 100
/-! ### dicts of ints -/
def kvOf (m : Pol) : List (Key × V) := m.map fun t => (Sum.inl t.1, V.int t.2)
theorem put_new : ∀ {m : Pol} {e v : Int}, e ∉ m.map (·.1) → put m e v = m ++ [(e, v)]
  | [], _, _, _ => rfl
  | t :: r, e, v, h => by
    have h1 : t.1 ≠ e := fun z => h (by rw [← z]; exact List.mem_cons_self)
    unfold put
    rw [if_neg h1, put_new fun z => h (List.mem_cons_of_mem _ z)]
    rfl
theorem sl_of {n : Nat} (h : n ≤ 1000000) : n ≤ sizeLine := by
  rw [sizeLine_eq]
  omega
theorem sl_lt {n : Nat} (h : n ≤ 1000000) : n < sizeLine := by
  rw [sizeLine_eq]
  omega
/-! ### a list of pairs that a comprehension, or a loop, makes -/
structure Grow (K : PySem.W.Frag) (H0 : Hp) (D : Addr) (f : Pol) (H : Hp) : Prop where
  same : Same H0 H
  ex : ∃ xs, H D = some (.lst xs) ∧ Prs K H xs f
section
variable {K : PySem.W.Frag} {H0 H : Hp} {D q : Addr} {f : Pol}
theorem Grow.start (n : H0 D = none) : Grow K H0 D [] (upd H0 D (.lst [])) := ⟨same_new n, [], upd_same, .nil⟩
theorem Grow.step (n : H0 D = none) (g : Grow K H0 D f H) (hq : H q = none) (e c : Int) (hl : f.length < 1000000) :
    ∃ acc, upd H q (.tup [.int e, .int c]) D = some (.lst acc) ∧ acc.length < sizeLine ∧ Grow K H0 D (f ++ [(e, c)]) (upd (upd H q (.tup [.int e, .int c])) D (.lst (acc ++ [.ref q]))) := by
  obtain ⟨s, xs, hD, hP⟩ := g
  have nDq : D ≠ q := ne_of_none hD hq
  have h1 : upd H q (.tup [.int e, .int c]) D = some (.lst xs) := by
    rw [upd_ne nDq]
    exact hD
  have t1 : Tp H (upd H q (.tup [.int e, .int c])) := tp_new hq
  have t2 : Tp (upd H q (.tup [.int e, .int c])) (upd (upd H q (.tup [.int e, .int c])) D (.lst (xs ++ [.ref q]))) := tp_lst h1
  refine ⟨xs, h1, sl_lt (by rw [hP.len]; omega), same_mut (s.trans (same_new hq)) n, _, upd_same, Prs.snoc (Prs.tp (t1.trans t2) hP) (IsPr.tp t2 ?_)⟩
  exact isPr_new (t := (e, c))
end
theorem take_snoc {α : Type} {ys : List α} {i : Nat} {e : α} (h : ys[i]? = some e) : ys.take (i + 1) = ys.take i ++ [e] := by
  rw [List.take_add_one, h]
  rfl
/-! ### a def of the text by its name, and its call -/
structure Cal (P : Program) (w : World) (K : PySem.W.Frag) (mg : Str → Option Value) (base : Heap) (k : Nat) (x : Str) (sp : Sp) : Prop where
  ex : ∃ (f : Addr) (fd : FuncData) (ps : List Str), FnOk P w K mg base CX0 k f fd ps sp ∧ mg x = some (.ref f) ∧ PySem.W.keepIn K (.ref f) = true ∧ Binds K fd ps []
theorem pe_c {X : Cx} {k j : Nat} {x : Str} {sp : Sp} {p pos : Pos} {e : Expr} {es : List Expr} {t : TA} (c : Cal X.prog X.w X.K X.mg X.base k x sp) (hr : Room j X.A) (hk : k ≤ j) (hg : Gl X x) (ha : PA X (e :: es) t)
    (h1 : (x == ("__debug__" : Str)) = false := by decide) (h2 : starEach (e :: es) X.env = (false, eval e X.env) :: starEach es X.env := by rfl) (h3 : (backTo pos (starEach es X.env)).any (·.1) = false := by rfl) :
    PE X (.Call (.Name x p) (e :: es) [] pos) (tCall sp [] E0 t) := by
  obtain ⟨f, fd, ps, F, hm, kp, b⟩ := c.ex
  exact pe_call F (hr.mono hk) hg hm kp b .nil pass0 ha h1 h2 h3
/-! ### comprehensions that make pairs -/
/-! ### a def as the top leaves it -/
structure Df (K : PySem.W.Frag) (mg : Str → Option Value) (x : Str) (st : Stmt) : Prop where
  ex : ∃ (f : Addr) (fd : FuncData), Fun K x x st f fd ∧ mg x = some (.ref f) ∧ PySem.W.keepIn K (.ref f) = true
theorem df_mk {K : PySem.W.Frag} {h : Heap} {mg : Str → Option Value} {x : Str} {st : Stmt} {f : Addr} {oc : Value} {od an : Option Addr} {osl : Array (Option Value)} {kV doc pm cdv ct : Value} (X : K.In h) (G : h.Ns mainGlobals mg)
    (a : PySem.W.nsIn K mainGlobals x = some (some (.ref f))) (l : K.lookup f = some ⟨oc, od, .func (PySem.W.fnOf x x (defArgs st) (defBody st) (defScope st) .none kV doc pm an cdv ct), osl⟩) (c : PySem.W.codeIn K cdv x = true) (k : PySem.W.keepIn K (.ref f) = true) : Df K mg x st :=
  ⟨f, _, fun_mk (st := st) l c k, PySem.W.mg_of X G a, k⟩
theorem cal_of {P : Program} {w : World} {K : PySem.W.Frag} {mg : Str → Option Value} {base : Heap} {k : Nat} {x : Str} {st : Stmt} {ps : List Str} {sp : Sp} (D : Df K mg x st)
    (b : ∀ (kV doc pm : Value) (an : Option Addr) (cdv ct : Value) (us : List Value), us.length = ps.length → bindArgs (PySem.W.fnOf x x (defArgs st) (defBody st) (defScope st) .none kV doc pm an cdv ct) ⟨us, []⟩ = pure (ps.zip us))
    (ok : ∀ f fd, Fun K x x st f fd → FnOk P w K mg base CX0 k f fd ps sp) : Cal P w K mg base k x sp := by
  obtain ⟨f, fd, F, hm, kp⟩ := D.ex
  exact ⟨f, fd, ps, ok f fd F, hm, kp, F.binds b⟩
end DR
namespace DR
open PySem PySem.Spec PyProof.Rows L2
/-! ### the pen that draws from the script -/
theorem n_cu : ¬ ((Sum.inr ("cells" : Str) : Key) = Sum.inr ("used" : Str)) := by decide +kernel
theorem n_cl : ¬ ((Sum.inr ("cells" : Str) : Key) = Sum.inr ("left" : Str)) := by decide +kernel
theorem n_ul : ¬ ((Sum.inr ("used" : Str) : Key) = Sum.inr ("left" : Str)) := by decide +kernel
theorem n_lu : ¬ ((Sum.inr ("left" : Str) : Key) = Sum.inr ("used" : Str)) := by decide +kernel
def penKv (c : Addr) (u l : Int) : List (Key × V) := [(Sum.inr ("cells" : Str), .ref c), (Sum.inr ("used" : Str), .int u), (Sum.inr ("left" : Str), .int l)]
section
variable (c : Addr) (u l x : Int)
theorem pen_cells : valV (penKv c u l) (Sum.inr ("cells" : Str) : Key) = some (.ref c) := valV_pos rfl
theorem pen_used : valV (penKv c u l) (Sum.inr ("used" : Str) : Key) = some (.int u) := by
  unfold penKv
  rw [valV_neg n_cu, valV_pos rfl]
theorem pen_left : valV (penKv c u l) (Sum.inr ("left" : Str) : Key) = some (.int l) := by
  unfold penKv
  rw [valV_neg n_cl, valV_neg n_ul, valV_pos rfl]
theorem pen_setU : putK (penKv c u l) (Sum.inr ("used" : Str) : Key) (.int x) = penKv c x l := by
  unfold putK
  rw [valV_any, pen_used, if_pos (by rfl)]
  unfold penKv
  rw [List.map_cons, List.map_cons, List.map_cons, List.map_nil, if_neg n_cu, if_pos rfl, if_neg n_lu]
theorem pen_setL : putK (penKv c u l) (Sum.inr ("left" : Str) : Key) (.int x) = penKv c u x := by
  unfold putK
  rw [valV_any, pen_left, if_pos (by rfl)]
  unfold penKv
  rw [List.map_cons, List.map_cons, List.map_cons, List.map_nil, if_neg n_cl, if_neg n_ul, if_pos rfl]
theorem pen_merge : mergeK [] (penKv c u l) = penKv c u l := by
  have e1 : putK ([] : List (Key × V)) (Sum.inr ("cells" : Str)) (.ref c) = [(Sum.inr ("cells" : Str), .ref c)] := putK_new _ valV_nil
  have e2 : putK ([(Sum.inr ("cells" : Str), .ref c)] : List (Key × V)) (Sum.inr ("used" : Str)) (.int u) = [(Sum.inr ("cells" : Str), .ref c), (Sum.inr ("used" : Str), .int u)] := putK_new _ (by rw [valV_neg n_cu]; exact valV_nil)
  have e3 : putK ([(Sum.inr ("cells" : Str), .ref c), (Sum.inr ("used" : Str), .int u)] : List (Key × V)) (Sum.inr ("left" : Str)) (.int l) = penKv c u l := putK_new _ (by rw [valV_neg n_cl, valV_neg n_ul]; exact valV_nil)
  show putK (putK (putK ([] : List (Key × V)) (Sum.inr ("cells" : Str)) (.ref c)) (Sum.inr ("used" : Str)) (.int u)) (Sum.inr ("left" : Str)) (.int l) = _
  rw [e1, e2, e3]
end
/-- a pen at p, its cells at c, that has drawn at most n numbers -/
structure PenAt (H : Hp) (p c : Addr) (n : Nat) : Prop where
  ex : ∃ (ns : List Int) (u l : Int), H p = some (.dK (penKv c u l)) ∧ H c = some (.lst (ns.map V.int)) ∧ 0 ≤ u ∧ u ≤ n
section
variable {H H' : Hp} {p c : Addr} {n m : Nat}
theorem PenAt.dict (h : PenAt H p c n) : ∃ kvs, H p = some (.dK kvs) := by
  obtain ⟨ns, u, l, h1, _⟩ := h.ex
  exact ⟨_, h1⟩
theorem PenAt.cells (h : PenAt H p c n) : ∃ xs, H c = some (.lst xs) := by
  obtain ⟨ns, u, l, _, h2, _⟩ := h.ex
  exact ⟨_, h2⟩
theorem PenAt.np {q : Addr} (h : PenAt H p c n) (hq : H q = none) : q ≠ p := (h.dict.elim fun _ e => ne_of_none e hq).symm
theorem PenAt.nc {q : Addr} (h : PenAt H p c n) (hq : H q = none) : q ≠ c := (h.cells.elim fun _ e => ne_of_none e hq).symm
theorem PenAt.mono (h : PenAt H p c n) (e : n ≤ m) : PenAt H p c m := by
  obtain ⟨ns, u, l, h1, h2, h3, h4⟩ := h.ex
  exact ⟨ns, u, l, h1, h2, h3, by omega⟩
theorem PenAt.same (h : PenAt H p c n) (s : Same H H') : PenAt H' p c n := by
  obtain ⟨ns, u, l, h1, h2, h3⟩ := h.ex
  exact ⟨ns, u, l, s _ _ h1, s _ _ h2, h3⟩
/-- another object changes -/
theorem PenAt.upd {q : Addr} {o : HO} (h : PenAt H p c n) (h1 : q ≠ p) (h2 : q ≠ c) : PenAt (upd H q o) p c n := by
  obtain ⟨ns, u, l, a1, a2, a3⟩ := h.ex
  exact ⟨ns, u, l, by rw [upd_ne h1.symm]; exact a1, by rw [upd_ne h2.symm]; exact a2, a3⟩
theorem PenAt.tp (h : PenAt H p c n) (k : Kp p H H') : Tp H H' := h.dict.elim fun _ e => k.tp e
end
end DR
namespace DR
open PySem PySem.Spec PyProof.Rows L2
/-! ### what the defs promise -/
def primes : List Int := [2, 3, 5, 7, 11, 13, 17, 19, 23, 29, 31, 37, 41, 43, 47, 53, 59, 61, 67, 71, 73, 79, 83, 89, 97]
theorem prime_rng : ∀ q ∈ primes, 2 ≤ q ∧ q ≤ 97 := by decide
def sp__law_pen (K : PySem.W.Frag) : Sp := fun vs H Q _ => ∃ (a : Addr) (ns : List Int), vs = [.ref a] ∧ SqL K H a (ns.map V.int) ∧ ∀ p c H', H p = none → Same H H' → PenAt H' p c 0 → Q (.ref p) H'
def sp__law_draw : Sp := fun vs H Q _ => ∃ (p c : Addr) (many : Int) (n : Nat), vs = [.ref p, .int many] ∧ 0 < many ∧ many.natAbs < 2 ^ 400 ∧ PenAt H p c n ∧ n < 2 ^ 40 ∧ ∀ r H', 0 ≤ r → r < many → Kp p H H' → PenAt H' p c (n + 1) → Q (.int r) H'
def sp__law_pick : Sp := fun vs H Q _ => ∃ (p c o : Addr) (n : Nat) (xs : List V), vs = [.ref p, .ref o] ∧ PenAt H p c n ∧ n < 2 ^ 40 ∧ H o = some (.lst xs) ∧ 0 < xs.length ∧ xs.length ≤ 100000 ∧ ∀ v H', v ∈ xs → Kp p H H' → PenAt H' p c (n + 1) → Q v H'
def sp__law_prime : Sp := fun vs H Q _ => ∃ (p c : Addr) (n : Nat), vs = [.ref p] ∧ PenAt H p c n ∧ n + 2 < 2 ^ 40 ∧ ∀ q H', q ∈ primes → Kp p H H' → PenAt H' p c (n + 2) → Q (.int q) H'
def sp__law_integer : Sp := fun vs H Q _ => ∃ (p c : Addr) (most : Int) (n : Nat), vs = [.ref p, .int most] ∧ 0 ≤ most ∧ most.natAbs < 10 ^ 90 ∧ PenAt H p c n ∧ n < 2 ^ 40 ∧ ∀ r H', r.natAbs ≤ most.natAbs → Kp p H H' → PenAt H' p c (n + 1) → Q (.int r) H'
/-! ### effects -/
def TEff (K : PySem.W.Frag) (H : Hp) (v : V) (f : Pol) (n : Int) : Prop := ∃ a x, v = .ref a ∧ SqT K H a [x, .int n] ∧ TPol K H x f
theorem TEff.tp {K : PySem.W.Frag} {H H' : Hp} {v : V} {f : Pol} {n : Int} (e : Tp H H') (h : TEff K H v f n) : TEff K H' v f n := by
  obtain ⟨a, x, rfl, hs, hx⟩ := h
  exact ⟨a, x, rfl, tp_t e hs, hx.tp e⟩
def ed (f : Pol) (n : Int) : PyData := .tuple [pd f, .int n]
theorem TEff.dp {K : PySem.W.Frag} {H : Hp} {v : V} {f : Pol} {n : Int} (h : TEff K H v f n) : Dp K H v (ed f n) := by
  obtain ⟨a, x, rfl, hs, hx⟩ := h
  exact .tup hs (.cons hx.dp (.cons (.int _) .nil))
/-! ### a comprehension that draws -/
/-! ### comparisons of data -/
theorem nz_check : (primes.all fun q => (List.range q.toNat).all fun a => (List.range q.toNat).all fun b => a == 0 || b == 0 || (a * b % q.toNat != 0)) = true := by decide +kernel
theorem prime_nz {q : Int} (hq : q ∈ primes) {a b : Int} (ha : 0 < a) (ha' : a < q) (hb : 0 < b) (hb' : b < q) : a * b % q ≠ 0 := by
  intro h
  have h1 := List.all_eq_true.mp nz_check q hq
  have h2 := List.all_eq_true.mp h1 a.toNat (List.mem_range.mpr (by omega))
  have h3 := List.all_eq_true.mp h2 b.toNat (List.mem_range.mpr (by omega))
  simp only [Bool.or_eq_true, beq_iff_eq, bne_iff_ne, ne_eq] at h3
  rcases h3 with (h3 | h3) | h3
  · omega
  · omega
  · apply h3
    have e : ((a.toNat * b.toNat % q.toNat : Nat) : Int) = a * b % q := by
      rw [Int.natCast_emod, Int.natCast_mul, Int.toNat_of_nonneg (by omega), Int.toNat_of_nonneg (by omega), Int.toNat_of_nonneg (by omega)]
    rw [h] at e
    omega
theorem nf_one {q e c : Int} (h1 : 0 < c) (h2 : c < q) : Nf q [(e, c)] (cf [(e, c)]) := by
  refine ⟨List.pairwise_singleton _ _, fun t h => ?_, fun x => ?_⟩
  · have : t = (e, c) := by simpa using h
    rw [this]
    exact ⟨h1, h2⟩
  · rw [cf_cons, cf_nil]
    by_cases h : e = x
    · rw [if_pos h, Int.add_zero, Int.emod_eq_of_lt (by omega) h2]
    · rw [if_neg h]
      rfl
end DR
namespace DR
open PySem PySem.Spec PyProof.Rows L2
/-! ### any data, and what is told of it -/
def tyName : PyData → String
  | .none => "NoneType"
  | .bool _ => "bool"
  | .int _ => "int"
  | .str _ => "str"
  | .list _ => "list"
  | .tuple _ => "tuple"
  | .dict _ => "dict"
def isTup : PyData → Bool
  | .tuple _ => true
  | _ => false
def isInt' : PyData → Bool
  | .int _ => true
  | .bool _ => true
  | _ => false
def isBool : PyData → Bool
  | .bool _ => true
  | _ => false
def isWhole : PyData → Bool
  | .int _ => true
  | _ => false
/-- data, or an empty dict -/
def DpX (K : PySem.W.Frag) (H : Hp) (v : V) (d : PyData) : Prop := Dp K H v d ∨ ∃ a, v = .ref a ∧ H a = some (.dK []) ∧ d = .dict []
section
variable {K : PySem.W.Frag} {H H' : Hp} {v : V} {d : PyData}
theorem Dp.ty (h : Dp K H v d) : TyX K H v (.type (tyName d)) := by
  cases h with
  | non => exact .base .non
  | bl b => exact .base (.bl b)
  | int i => exact .base (.int i)
  | str x => exact .base (.str x)
  | lst hs _ =>
    rcases hs with (h | ⟨o, h⟩) | ⟨o, its, n, h, c, _⟩
    · exact .base (.lst h)
    · exact .base (.frz h)
    · exact .kList h c
  | tup hs _ =>
    rcases hs with (h | ⟨o, h⟩) | ⟨o, its, n, h, c, _⟩
    · exact .base (.tup h)
    · exact .fTuple h
    · exact .kTuple h c
theorem DpX.ty (h : DpX K H v d) : TyX K H v (.type (tyName d)) := by
  rcases h with h | ⟨a, rfl, h, rfl⟩
  · exact Dp.ty h
  · exact .base (.dK h)
theorem kit_tuple (d : PyData) : PySem.W.kitOne K (.type (tyName d)) (.type "tuple") = some (isTup d) := by
  cases d with
  | none => exact kit_ty (show kitB "NoneType" "tuple" = some false by decide +kernel)
  | bool b => exact kit_ty (show kitB "bool" "tuple" = some false by decide +kernel)
  | int i => exact kit_ty (show kitB "int" "tuple" = some false by decide +kernel)
  | str x => exact kit_ty (show kitB "str" "tuple" = some false by decide +kernel)
  | list xs => exact kit_ty (show kitB "list" "tuple" = some false by decide +kernel)
  | tuple xs => exact kit_ty (show kitB "tuple" "tuple" = some true by decide +kernel)
  | dict kvs => exact kit_ty (show kitB "dict" "tuple" = some false by decide +kernel)
theorem kit_int (d : PyData) : PySem.W.kitOne K (.type (tyName d)) (.type "int") = some (isInt' d) := by
  cases d with
  | none => exact kit_ty (show kitB "NoneType" "int" = some false by decide +kernel)
  | bool b => exact kit_ty (show kitB "bool" "int" = some true by decide +kernel)
  | int i => exact kit_ty (show kitB "int" "int" = some true by decide +kernel)
  | str x => exact kit_ty (show kitB "str" "int" = some false by decide +kernel)
  | list xs => exact kit_ty (show kitB "list" "int" = some false by decide +kernel)
  | tuple xs => exact kit_ty (show kitB "tuple" "int" = some false by decide +kernel)
  | dict kvs => exact kit_ty (show kitB "dict" "int" = some false by decide +kernel)
theorem kit_bool (d : PyData) : PySem.W.kitOne K (.type (tyName d)) (.type "bool") = some (isBool d) := by
  cases d with
  | none => exact kit_ty (show kitB "NoneType" "bool" = some false by decide +kernel)
  | bool b => exact kit_ty (show kitB "bool" "bool" = some true by decide +kernel)
  | int i => exact kit_ty (show kitB "int" "bool" = some false by decide +kernel)
  | str x => exact kit_ty (show kitB "str" "bool" = some false by decide +kernel)
  | list xs => exact kit_ty (show kitB "list" "bool" = some false by decide +kernel)
  | tuple xs => exact kit_ty (show kitB "tuple" "bool" = some false by decide +kernel)
  | dict kvs => exact kit_ty (show kitB "dict" "bool" = some false by decide +kernel)
mutual
theorem Dp.same (e : Same H H') : ∀ {v : V} {d : PyData}, Dp K H v d → Dp K H' v d
  | _, _, .non => .non
  | _, _, .bl b => .bl b
  | _, _, .int i => .int i
  | _, _, .str x => .str x
  | _, _, .lst hs ha => .lst (e.seq hs) (DpAll.same e ha)
  | _, _, .tup hs ha => .tup (same_t e hs) (DpAll.same e ha)
theorem DpAll.same (e : Same H H') : ∀ {vs : List V} {ds : List PyData}, DpAll K H vs ds → DpAll K H' vs ds
  | _, _, .nil => .nil
  | _, _, .cons h t => .cons (Dp.same e h) (DpAll.same e t)
end
theorem DpX.same (e : Same H H') (h : DpX K H v d) : DpX K H' v d := h.elim (fun z => .inl (Dp.same e z)) fun ⟨a, e1, e2, e3⟩ => .inr ⟨a, e1, e _ _ e2, e3⟩
theorem DpAll.len : ∀ {vs : List V} {ds : List PyData}, DpAll K H vs ds → vs.length = ds.length
  | _, _, .nil => rfl
  | _, _, .cons _ t => by rw [List.length_cons, List.length_cons, DpAll.len t]
theorem DpAll.get : ∀ {vs : List V} {ds : List PyData} {i : Nat} {x : V}, DpAll K H vs ds → vs[i]? = some x → ∃ d, ds[i]? = some d ∧ Dp K H x d
  | _, _, _, _, .nil, e => by simp at e
  | _, _, 0, _, .cons h _, e => by
    simp at e
    subst e
    exact ⟨_, rfl, h⟩
  | _, _, i + 1, x, .cons _ t, e => by
    obtain ⟨d, h1, h2⟩ := DpAll.get (i := i) (x := x) t (by simpa using e)
    exact ⟨d, by simpa using h1, h2⟩
/-- a tuple's items -/
theorem Dp.tup_inv {ds : List PyData} (h : Dp K H v (.tuple ds)) : ∃ a xs, v = .ref a ∧ SqT K H a xs ∧ DpAll K H xs ds := by
  cases h with
  | tup hs ha => exact ⟨_, _, rfl, hs, ha⟩
end
def sp_is_whole (K : PySem.W.Frag) : Sp := fun vs H Q _ => ∃ (v : V) (d : PyData), vs = [v] ∧ DpX K H v d ∧ Q (.bl (isWhole d)) H
theorem cut1 (xs : List V) : cutV xs (some 1) none = xs.drop 1 := by
  unfold cutV
  rw [show HT.sIx xs.length 0 (some 1) = min 1 xs.length from HT.sIx_nat xs.length 0 1, HT.sIx_none]
  cases xs with
  | nil => rfl
  | cons x r =>
    rw [show min 1 (x :: r).length = 1 by
      rw [List.length_cons]
      omega]
    show (List.take ((x :: r).length - 1) r) = r
    rw [List.length_cons, Nat.add_sub_cancel]
    exact List.take_length
/-! ### what canonical polynomials and effects are told to be -/
theorem two {α : Type} {xs : List α} (h : xs.length = 2) : ∃ a b, xs = [a, b] := by
  match xs, h with
  | [a, b], _ => exact ⟨a, b, rfl⟩
end DR
/-! ### tokens, joined by one blank -/
namespace DR
open PySem PySem.Spec PyProof.Rows L2 TL
/-- the text of these tokens -/
def jn (ts : List Str) : Str := Txt.join " " ts
theorem tl_blank : tl (" " : Str) = [32] := by decide +kernel
theorem tl_jn (ts : List Str) : tl (jn ts) = joinL [32] (ts.map tl) := by
  unfold jn
  rw [join_eq, tl_join, tl_blank]
theorem joinL_cons {S p : List Nat} : ∀ {b : List (List Nat)}, b ≠ [] → joinL S (p :: b) = p ++ (S ++ joinL S b)
  | [], h => absurd rfl h
  | _ :: _, _ => rfl
theorem joinL_two {S : List Nat} : ∀ {a b : List (List Nat)}, a ≠ [] → b ≠ [] → joinL S (a ++ b) = joinL S a ++ (S ++ joinL S b)
  | [], _, h, _ => absurd rfl h
  | [p], b, _, h => joinL_cons h
  | p :: q :: r, b, _, h => by
    have z : (q :: r) ++ b ≠ [] := by simp
    show joinL S (p :: ((q :: r) ++ b)) = _
    rw [joinL_cons z, joinL_two (by simp) h, joinL_cons (by simp : q :: r ≠ [])]
    simp only [List.append_assoc]
theorem jn_two {a b : List Str} (ha : a ≠ []) (hb : b ≠ []) : jn (a ++ b) = jn a ++ " " ++ jn b := by
  refine ext_tl ?_
  rw [tl_append, tl_append, tl_jn, tl_jn, tl_jn, tl_blank, List.map_append, joinL_two (by simpa using ha) (by simpa using hb), List.append_assoc]
theorem jn_one (t : Str) : jn [t] = t := ext_tl (by rw [tl_jn]; rfl)
theorem jn_nil : jn [] = Str.empty := ext_tl (by rw [tl_jn]; rfl)
/-- pieces, each some tokens joined -/
theorem jn_groups : ∀ {gs : List (List Str)}, (∀ g ∈ gs, g ≠ []) → jn (gs.map jn) = jn gs.flatten
  | [], _ => rfl
  | [g], _ => by
    rw [List.map_cons, List.map_nil, jn_one, List.flatten_cons, List.flatten_nil, List.append_nil]
  | g :: g2 :: r, h => by
    have h1 := h g List.mem_cons_self
    have h2 := h g2 (List.mem_cons_of_mem _ List.mem_cons_self)
    rw [List.map_cons, List.flatten_cons, jn_two h1 (by rw [List.flatten_cons]; exact fun z => h2 (List.append_eq_nil_iff.mp z).1), ← jn_groups fun g hg => h g (List.mem_cons_of_mem _ hg),
      show jn g :: (g2 :: r).map jn = [jn g] ++ (g2 :: r).map jn from rfl, jn_two (by simp) (by simp), jn_one]
/-- a text, cut into its tokens again -/
theorem split_jn {ts : List Str} (h0 : ts ≠ []) (h : ∀ t ∈ ts, 32 ∉ tl t) : Txt.split (jn ts) " " = ts := split_join tl_blank (by decide +kernel) h0 h
theorem jn_len (ts : List Str) : (jn ts).length ≤ (ts.map fun t => t.length + 1).sum := by
  rw [len_tl, tl_jn]
  induction ts with
  | nil => exact Nat.le_refl _
  | cons t r ih =>
    rw [List.map_cons, List.map_cons, List.sum_cons, len_tl]
    cases r with
    | nil => exact Nat.le_trans (Nat.le_succ _) (Nat.le_add_right _ _)
    | cons u r =>
      rw [joinL_cons (by simp), List.length_append, List.length_append, List.length_singleton]
      omega
theorem jn_ne {ts : List Str} (h0 : ts ≠ []) (h : ∀ t ∈ ts, tl t ≠ []) : tl (jn ts) ≠ [] := by
  rw [tl_jn]
  cases ts with
  | nil => exact absurd rfl h0
  | cons t r =>
    cases r with
    | nil => exact h t List.mem_cons_self
    | cons u r =>
      rw [List.map_cons, joinL_cons (by simp)]
      exact fun z => h t List.mem_cons_self (List.append_eq_nil_iff.mp z).1
/-! ### the token of a number -/
def ctS (c : Int) : Str := Str.ofString (toString c)
theorem ct_pos (n : Nat) : tl (ctS (n : Int)) = numL n := tl_num n
theorem ct_neg {n : Nat} (h : 0 < n) : tl (ctS (-(n : Int))) = 45 :: numL n := by
  obtain ⟨m, rfl⟩ : ∃ m, n = m + 1 := ⟨n - 1, by omega⟩
  have e : toString (-((m + 1 : Nat) : Int)) = "-" ++ toString (m + 1 : Nat) := rfl
  unfold ctS
  rw [e, tl_ofString, String.toList_append, List.map_append]
  have t : (toString (m + 1 : Nat)).toList.map Char.toNat = numL (m + 1) := by
    rw [← tl_num, tl_ofString]
    rfl
  rw [t]
  rfl
/-- the signs behind the minus sign, if there is one -/
def dgL (t : List Nat) : List Nat := match t with
  | 45 :: r => r
  | t => t
/-- whether a token begins with the minus sign -/
def isNeg (t : List Nat) : Bool := match t with
  | 45 :: _ => true
  | _ => false
instance (cs : List Nat) : Decidable (NumText.AllDigits cs) := by unfold NumText.AllDigits; exact inferInstance
/-- the number of a token that is well written, whatever its size -/
def ctW (t : List Nat) : Int := if isNeg t then -((NumText.digitsVal (dgL t) : Nat) : Int) else ((NumText.digitsVal (dgL t) : Nat) : Int)
/-- a token is the text of a number with at most 31 digits -/
def CtOk (t : List Nat) : Prop := dgL t ≠ [] ∧ NumText.AllDigits (dgL t) ∧ ((dgL t).head? = some 48 → t = [48]) ∧ (dgL t).length ≤ 31
instance (t : List Nat) : Decidable (CtOk t) := by unfold CtOk; exact inferInstance
/-- the count of a token -/
def ctOf (t : Str) : Option Int := if CtOk (tl t) ∧ (ctW (tl t)).natAbs ≤ 10 ^ 30 then some (ctW (tl t)) else none
theorem numL_head {n : Nat} (h : 0 < n) : (numL n).head? ≠ some 48 := by
  induction n using Nat.strongRecOn with
  | _ n ih =>
    by_cases q : n < 10
    · rw [numL_lt q]
      intro z
      have : 48 + n = 48 := Option.some.inj z
      omega
    · rw [numL_step (by omega), List.head?_append]
      have := ih (n / 10) (by omega) (by omega)
      cases e : (numL (n / 10)).head? with
      | none => exact absurd (List.head?_eq_none_iff.mp e) (numL_ne _)
      | some c =>
        rw [e] at this
        exact this
theorem neg_num (n : Nat) : isNeg (numL n) = false ∧ dgL (numL n) = numL n := by
  have d := numL_digits n
  cases e : numL n with
  | nil => exact absurd e (numL_ne n)
  | cons c r =>
    have := d c (by rw [e]; exact List.mem_cons_self)
    have hc : c ≠ 45 := by omega
    constructor
    · unfold isNeg
      split
      · next z => cases z; exact absurd rfl hc
      · rfl
    · unfold dgL
      split
      · next z => cases z; exact absurd rfl hc
      · rfl
theorem num_short {n : Nat} (h : n ≤ 10 ^ 30) : (numL n).length ≤ 31 := numL_len (by decide) (by
  have : (10 : Nat) ^ 30 < 10 ^ 31 := by decide
  omega)
theorem ct_back {c : Int} (h : c.natAbs ≤ 10 ^ 30) : ctOf (ctS c) = some c := by
  by_cases hc : 0 ≤ c
  · obtain ⟨n, rfl⟩ := Int.eq_ofNat_of_zero_le hc
    have z := neg_num n
    have hn : n ≤ 10 ^ 30 := by simpa using h
    have w : ctW (tl (ctS (n : Int))) = (n : Int) := by
      unfold ctW
      rw [ct_pos, z.1, z.2, numL_val]
      rfl
    have ok : CtOk (tl (ctS (n : Int))) := by
      unfold CtOk
      rw [ct_pos, z.2]
      refine ⟨numL_ne n, numL_digits n, fun e => ?_, num_short hn⟩
      by_cases q : 0 < n
      · exact absurd e (numL_head q)
      · rw [show n = 0 by omega]
        decide +kernel
    unfold ctOf
    rw [if_pos ⟨ok, by rw [w]; exact h⟩, w]
  · obtain ⟨n, hn0, rfl⟩ : ∃ n : Nat, 0 < n ∧ c = -(n : Int) := ⟨c.natAbs, by omega, by omega⟩
    have hn : n ≤ 10 ^ 30 := by simpa using h
    have z := ct_neg hn0
    have w : ctW (tl (ctS (-(n : Int)))) = -(n : Int) := by
      unfold ctW
      rw [z]
      show (if true = true then -((NumText.digitsVal (numL n) : Nat) : Int) else _) = _
      rw [if_pos rfl, numL_val]
    have ok : CtOk (tl (ctS (-(n : Int)))) := by
      unfold CtOk
      rw [z]
      show numL n ≠ [] ∧ NumText.AllDigits (numL n) ∧ ((numL n).head? = some 48 → _) ∧ (numL n).length ≤ 31
      exact ⟨numL_ne n, numL_digits n, fun e => absurd e (numL_head hn0), num_short hn⟩
    unfold ctOf
    rw [if_pos ⟨ok, by rw [w]; exact h⟩, w]
theorem ct_free (c : Int) : 32 ∉ tl (ctS c) := by
  by_cases hc : 0 ≤ c
  · obtain ⟨n, rfl⟩ := Int.eq_ofNat_of_zero_le hc
    rw [ct_pos]
    exact numL_free (.inl (by decide))
  · obtain ⟨n, hn0, rfl⟩ : ∃ n : Nat, 0 < n ∧ c = -(n : Int) := ⟨c.natAbs, by omega, by omega⟩
    rw [ct_neg hn0]
    intro z
    rcases List.mem_cons.mp z with e | e
    · cases e
    · exact numL_free (.inl (by decide)) e
theorem ct_short {c : Int} (h : c.natAbs ≤ 10 ^ 30) : (ctS c).length ≤ 32 := by
  rw [len_tl]
  by_cases hc : 0 ≤ c
  · obtain ⟨n, rfl⟩ := Int.eq_ofNat_of_zero_le hc
    rw [ct_pos]
    have : n ≤ 10 ^ 30 := by simpa using h
    have := num_short this
    omega
  · obtain ⟨n, hn0, rfl⟩ : ∃ n : Nat, 0 < n ∧ c = -(n : Int) := ⟨c.natAbs, by omega, by omega⟩
    rw [ct_neg hn0, List.length_cons]
    have : n ≤ 10 ^ 30 := by simpa using h
    have := num_short this
    omega
theorem ct_ne (c : Int) : tl (ctS c) ≠ [] := by
  by_cases hc : 0 ≤ c
  · obtain ⟨n, rfl⟩ := Int.eq_ofNat_of_zero_le hc
    rw [ct_pos]
    exact numL_ne n
  · obtain ⟨n, hn0, rfl⟩ : ∃ n : Nat, 0 < n ∧ c = -(n : Int) := ⟨c.natAbs, by omega, by omega⟩
    rw [ct_neg hn0]
    simp
/-- int() of a token -/
theorem ct_int {t : Str} (h : CtOk (tl t)) : PySem.intText? t = some (ctW (tl t)) ∧ t.length ≤ 32 := by
  obtain ⟨h1, h2, _, h4⟩ := h
  have hl : t.cps.toList = tl t := rfl
  cases e : tl t with
  | nil =>
    rw [e] at h1
    exact absurd rfl h1
  | cons c r =>
    by_cases hc : c = 45
    · subst hc
      rw [e] at h1 h2 h4
      change r ≠ [] at h1
      change NumText.AllDigits r at h2
      change r.length ≤ 31 at h4
      have ln : t.length ≤ 32 := by
        rw [len_tl, e, List.length_cons]
        omega
      refine ⟨?_, ln⟩
      rw [intText_neg (hl.trans e) h2 h1 (by omega)]
      rfl
    · have d : dgL (c :: r) = c :: r := by
        unfold dgL
        split
        · next z => cases z; exact absurd rfl hc
        · rfl
      have s : isNeg (c :: r) = false := by
        unfold isNeg
        split
        · next z => cases z; exact absurd rfl hc
        · rfl
      rw [e, d] at h1 h2 h4
      have ln : t.length ≤ 32 := by
        rw [len_tl, e]
        omega
      refine ⟨?_, ln⟩
      rw [intText_digits (by rw [hl, e]; exact h2) (by rw [hl, e]; exact h1) (by omega), hl, e]
      unfold ctW
      rw [s, d]
      rfl
end DR
namespace DR
open PySem PySem.Spec PyProof.Rows L2
/-! ### repr of any data, and of an empty dict -/
section
variable {X : Cx}
theorem call_reprX (hg : X.A.guards = some []) (hu : X.A.units + 100 < cLine) : CallR X (.builtin "repr") (fun xs H Q => ∃ (x : V) (d : PyData), xs = [x] ∧ DpX X.K H x d ∧ d.showable = true ∧ (d.hasDict = true → d = .dict []) ∧ d.depth ≤ 64 ∧ d.shown.length ≤ sizeLine ∧ Q (.str d.shown) H) := by
  intro pins s σ H xs us Q I r h
  obtain ⟨x, d, rfl, hd, hs, hn, hz, hl, q⟩ := h
  obtain ⟨u, rfl, rx⟩ := vals1 r
  rcases hd with hd | ⟨a, rfl, ha, rfl⟩
  · cases hd with
    | non =>
      obtain rfl : u = Value.none := rx
      exact PySem.P.repr_of_none ⟨.str _, H, I.tok _, ⟨_, rfl⟩, q⟩
    | bl b =>
      obtain rfl : u = Value.bool b := rx
      refine PySem.P.repr_of_bool ⟨.str _, H, I.tok _, ⟨_, rfl⟩, ?_⟩
      cases b <;> exact q
    | int i =>
      obtain ⟨t, rfl⟩ := rx
      exact PySem.P.repr_of_int (of_decide_eq_true hs) ⟨.str _, H, I.tok _, ⟨_, rfl⟩, q⟩
    | str y =>
      obtain ⟨t, rfl⟩ := rx
      exact PySem.P.repr_of_str ⟨.str _, H, I.tok _, ⟨_, rfl⟩, q⟩ hl
    | @lst a xs ds h1 h2 =>
      obtain rfl : u = Value.ref a := rx
      obtain ⟨as, rd⟩ := Dp.reads I _ _ _ (Dp.lst h1 h2) rfl
      refine repr_of_reads' rd hs (fun z => absurd (hn z) (by intro e; cases e)) hg (by omega) (fun _ _ e => e) (fun h' t tk hk => ?_) hl
      exact ⟨.str _, H, I.kept hk, ⟨t, rfl⟩, q⟩
    | @tup a xs ds h1 h2 =>
      obtain rfl : u = Value.ref a := rx
      obtain ⟨as, rd⟩ := Dp.reads I _ _ _ (Dp.tup h1 h2) rfl
      refine repr_of_reads' rd hs (fun z => absurd (hn z) (by intro e; cases e)) hg (by omega) (fun _ _ e => e) (fun h' t tk hk => ?_) hl
      exact ⟨.str _, H, I.kept hk, ⟨t, rfl⟩, q⟩
  · obtain rfl : u = Value.ref a := rx
    obtain ⟨z, lo, vs, rel, o, es, ep, e1, ex, e2, _, e4, _⟩ := dk_rd I.hok (Rd.of ha)
    cases rel
    have e5 : es.toList = [] := by
      cases h : es.toList with
      | nil => rfl
      | cons y ys =>
        rw [h] at e4
        cases e4
    have rd : Reads s.heap (.ref a) (.dict []) (a :: [] ++ []) := .dict (kvs := []) e1 ex.1 e2 (by rw [e5]; exact .nil) (by rw [e5]; exact .nil)
    refine repr_of_reads' rd hs (fun _ hm => ?_) hg (by omega) (fun _ _ e => e) (fun h' t tk hk => ?_) hl
    · have e6 : sysModules = a := by simpa using hm
      rw [e6] at lo
      simp at lo
    · exact ⟨.str _, H, I.kept hk, ⟨t, rfl⟩, q⟩
end
end DR
/-! ### t[::-1] of a tuple -/
namespace DR
open PySem PySem.Spec PyProof.Rows L2
/-! ### values that may be shown and told of -/
def tupLen : PyData → Nat
  | .tuple es => es.length
  | _ => 0
/-- data that is shown in n signs at most, k deep at most -/
structure Fits (n k : Nat) (d : PyData) : Prop where
  sh : d.showable = true
  nd : d.hasDict = false
  dp : d.depth ≤ k
  ln : d.shown.length ≤ n
theorem Fits.up {n k n' k' : Nat} {d : PyData} (h : Fits n k d) (a : n ≤ n') (b : k ≤ k') : Fits n' k' d := ⟨h.sh, h.nd, Nat.le_trans h.dp b, Nat.le_trans h.ln a⟩
theorem fits_int {i : Int} (h : i.natAbs < 10 ^ 100) : Fits 101 0 (.int i) := ⟨(int_shows h).1, rfl, Nat.le_refl _, (int_shows h).2⟩
theorem fits_2 {n k n' k' : Nat} {d d' : PyData} (h : Fits n k d) (h' : Fits n' k' d') : Fits (n + n' + 7) (max k k' + 1) (.tuple [d, d']) := by
  obtain ⟨a, b, c, e⟩ := h
  obtain ⟨a', b', c', e'⟩ := h'
  refine ⟨?_, ?_, ?_, ?_⟩
  · show (d.showable && (d'.showable && true)) = true
    rw [a, a']
    rfl
  · show (d.hasDict || (d'.hasDict || false)) = false
    rw [b, b']
    rfl
  · show max d.depth (max d'.depth 0) + 1 ≤ max k k' + 1
    omega
  · show (tupleText [d.shown, d'.shown]).length ≤ _
    have := tupleText_len_le [d.shown, d'.shown]
    simp only [List.map_cons, List.map_nil, List.sum_cons, List.sum_nil, List.length_cons, List.length_nil] at this
    omega
theorem fits_3 {n k n' k' n2 k2 : Nat} {d d' d2 : PyData} (h : Fits n k d) (h' : Fits n' k' d') (h2 : Fits n2 k2 d2) : Fits (n + n' + n2 + 9) (max k (max k' k2) + 1) (.tuple [d, d', d2]) := by
  obtain ⟨a, b, c, e⟩ := h
  obtain ⟨a', b', c', e'⟩ := h'
  obtain ⟨a2, b2, c2, e2⟩ := h2
  refine ⟨?_, ?_, ?_, ?_⟩
  · show (d.showable && (d'.showable && (d2.showable && true))) = true
    rw [a, a', a2]
    rfl
  · show (d.hasDict || (d'.hasDict || (d2.hasDict || false))) = false
    rw [b, b', b2]
    rfl
  · show max d.depth (max d'.depth (max d2.depth 0)) + 1 ≤ _
    omega
  · show (tupleText [d.shown, d'.shown, d2.shown]).length ≤ _
    have := tupleText_len_le [d.shown, d'.shown, d2.shown]
    simp only [List.map_cons, List.map_nil, List.sum_cons, List.sum_nil, List.length_cons, List.length_nil] at this
    omega
/-- what repr and is_effect ask -/
structure Shw (d : PyData) : Prop where
  sh : d.showable = true
  nd : d.hasDict = true → d = .dict []
  dp : d.depth ≤ 64
  ln : d.shown.length ≤ sizeLine
  tl : tupLen d ≤ 1000000
  it : ∀ ds, d = .tuple ds → ∀ x ∈ ds, tupLen x ≤ 1000000
def Good (K : PySem.W.Frag) (H : Hp) (v : V) : Prop := ∃ d, DpX K H v d ∧ Shw d
section
variable {K : PySem.W.Frag} {H H' : Hp} {v : V} {l : List V}
theorem Good.same (e : Same H H') (h : Good K H v) : Good K H' v := h.elim fun d z => ⟨d, DpX.same e z.1, z.2⟩
theorem kp_l {p c : Addr} {n : Nat} {a : Addr} {xs : List V} (pen : PenAt H p c n) (k : Kp p H H') (h : SqL K H a xs) : SqL K H' a xs := by
  obtain ⟨kvs, hp⟩ := pen.dict
  rcases h with (h | ⟨o, h⟩) | h
  · exact .inl (.inl (k _ _ (ne_of h hp (by intro z; cases z)) h))
  · exact .inl (.inr ⟨o, k _ _ (ne_of h hp (by intro z; cases z)) h⟩)
  · exact .inr h
mutual
theorem Dp.kp {p c : Addr} {n : Nat} (pen : PenAt H p c n) (k : Kp p H H') : ∀ {v : V} {d : PyData}, Dp K H v d → Dp K H' v d
  | _, _, .non => .non
  | _, _, .bl b => .bl b
  | _, _, .int i => .int i
  | _, _, .str x => .str x
  | _, _, .lst hs ha => .lst (kp_l pen k hs) (DpAll.kp pen k ha)
  | _, _, .tup hs ha => .tup (tp_t (pen.tp k) hs) (DpAll.kp pen k ha)
theorem DpAll.kp {p c : Addr} {n : Nat} (pen : PenAt H p c n) (k : Kp p H H') : ∀ {vs : List V} {ds : List PyData}, DpAll K H vs ds → DpAll K H' vs ds
  | _, _, .nil => .nil
  | _, _, .cons h t => .cons (Dp.kp pen k h) (DpAll.kp pen k t)
end
theorem Good.kp {p c : Addr} {n : Nat} (pen : PenAt H p c n) (k : Kp p H H') (h : Good K H v) : Good K H' v := by
  obtain ⟨d, hd | ⟨a, e1, e2, e3⟩, s⟩ := h
  · exact ⟨d, .inl (Dp.kp pen k hd), s⟩
  · obtain ⟨ns, u, l, hp, _⟩ := pen.ex
    refine ⟨d, .inr ⟨a, e1, k _ _ (ne_of e2 hp (fun z => ?_)) e2, e3⟩, s⟩
    injection z with z
    cases z
end
end DR
namespace DR
open PySem PySem.Spec PyProof.Rows L2
/-! ### values laid out by hand -/
structure Nice (n k : Nat) (d : PyData) : Prop where
  f : Fits n k d
  tl : tupLen d ≤ 1000000
  it : ∀ ds, d = .tuple ds → ∀ x ∈ ds, tupLen x ≤ 1000000
theorem Nice.up {n k n' k' : Nat} {d : PyData} (h : Nice n k d) (a : n ≤ n') (b : k ≤ k') : Nice n' k' d := ⟨h.f.up a b, h.tl, h.it⟩
def FA (K : PySem.W.Frag) (H : Hp) (v : V) : Prop := ∃ d, Dp K H v d ∧ Nice 25000 3 d
def FB (K : PySem.W.Frag) (H : Hp) (v : V) : Prop := ∃ d, Dp K H v d ∧ Nice 100000 4 d
section
variable {K : PySem.W.Frag} {H : Hp} {b : Addr}
variable {H' : Hp} {v w x : V} {Q : VK}
theorem FA.same (e : Same H H') (h : FA K H v) : FA K H' v := h.elim fun d z => ⟨d, Dp.same e z.1, z.2⟩
theorem FB.same (e : Same H H') (h : FB K H v) : FB K H' v := h.elim fun d z => ⟨d, Dp.same e z.1, z.2⟩
theorem FA.kp {p c : Addr} {n : Nat} (pen : PenAt H p c n) (k : Kp p H H') (h : FA K H v) : FA K H' v := h.elim fun d z => ⟨d, Dp.kp pen k z.1, z.2⟩
theorem FB.kp {p c : Addr} {n : Nat} (pen : PenAt H p c n) (k : Kp p H H') (h : FB K H v) : FB K H' v := h.elim fun d z => ⟨d, Dp.kp pen k z.1, z.2⟩
theorem FA.fb (h : FA K H v) : FB K H v := h.elim fun d z => ⟨d, z.1, z.2.up (by decide) (by decide)⟩
theorem DpAll.append : ∀ {xs ys : List V} {ds es : List PyData}, DpAll K H xs ds → DpAll K H ys es → DpAll K H (xs ++ ys) (ds ++ es)
  | _, _, _, _, .nil, t => t
  | _, _, _, _, .cons h r, t => .cons h (DpAll.append r t)
theorem Sm.snoc {g : Pol} (h : Sm g) (hl : g.length ≤ 100) : Sm (g ++ [(0, 1)]) := ⟨by rw [List.length_append]; show g.length + 1 ≤ _; omega, fun t ht => by
  rcases List.mem_append.mp ht with z | z
  · exact h.abs t z
  · cases List.mem_singleton.mp z
    decide⟩
/-- a heap without the lists that another one holds -/
def er (H0 H : Hp) : Hp := fun b => match H0 b with | some (.lst _) => none | _ => H b
theorem er_at {H0 : Hp} {o : HO} (h : er H0 H b = some o) : H b = some o ∧ ∀ xs, H0 b ≠ some (.lst xs) := by
  unfold er at h
  split at h
  · cases h
  · next h2 => exact ⟨h, fun xs e => h2 xs e⟩
theorem er_of {H0 : Hp} {o : HO} (h : H b = some o) (n : ∀ xs, H0 b ≠ some (.lst xs)) : er H0 H b = some o := by
  unfold er
  split
  · next xs e => exact absurd e (n xs)
  · exact h
theorem er_sub (H0 H : Hp) : Same (er H0 H) H := fun b o e => (er_at e).1
theorem er_same {H0 : Hp} (s : Same H H') : Same (er H0 H) (er H0 H') := fun b o e => er_of (s _ _ (er_at e).1) (er_at e).2
theorem er_kp {H0 : Hp} {p : Addr} (k : Kp p H H') : Kp p (er H0 H) (er H0 H') := fun b o nb e => er_of (k _ _ nb (er_at e).1) (er_at e).2
/-- lists stay -/
def Al (H0 H : Hp) : Prop := ∀ b xs, H0 b = some (.lst xs) → H b ≠ none
theorem Al.refl (H : Hp) : Al H H := fun b xs e z => by rw [e] at z; cases z
theorem Al.same {H0 : Hp} (h : Al H0 H) (s : Same H H') : Al H0 H' := fun b xs e z => by
  cases hb : H b with
  | none => exact h b xs e hb
  | some o => rw [s _ _ hb] at z; cases z
theorem Al.kp {H0 : Hp} {p c : Addr} {n : Nat} (h : Al H0 H) (k : Kp p H H') (pen : PenAt H' p c n) : Al H0 H' := fun b xs e z => by
  by_cases hp : b = p
  · subst hp
    obtain ⟨kvs, d⟩ := pen.dict
    rw [z] at d
    cases d
  · cases hb : H b with
    | none => exact h b xs e hb
    | some o => rw [k _ _ hp hb] at z; cases z
theorem er_tp (H : Hp) : Tp H (er H H) := ⟨fun b xs e => er_of e fun ys z => (by rw [e] at z; cases z), fun b o u e => er_of e fun ys z => (by rw [e] at z; cases z)⟩
theorem tp_kp {p : Addr} {kvs : List (Key × V)} (hp : H p = some (.dK kvs)) (k : Kp p H H') : Tp H H' := ⟨fun b xs e => k _ _ (ne_of e hp (by intro z; cases z)) e, fun b o u e => k _ _ (ne_of e hp (by intro z; cases z)) e⟩
theorem kpd_l {p : Addr} {kvs : List (Key × V)} {a : Addr} {xs : List V} (hp : H p = some (.dK kvs)) (k : Kp p H H') (h : SqL K H a xs) : SqL K H' a xs := by
  rcases h with (h | ⟨o, h⟩) | h
  · exact .inl (.inl (k _ _ (ne_of h hp (by intro z; cases z)) h))
  · exact .inl (.inr ⟨o, k _ _ (ne_of h hp (by intro z; cases z)) h⟩)
  · exact .inr h
mutual
theorem Dp.kpd {p : Addr} {kvs : List (Key × V)} (hp : H p = some (.dK kvs)) (k : Kp p H H') : ∀ {v : V} {d : PyData}, Dp K H v d → Dp K H' v d
  | _, _, .non => .non
  | _, _, .bl b => .bl b
  | _, _, .int i => .int i
  | _, _, .str x => .str x
  | _, _, .lst hs ha => .lst (kpd_l hp k hs) (DpAll.kpd hp k ha)
  | _, _, .tup hs ha => .tup (tp_t (tp_kp hp k) hs) (DpAll.kpd hp k ha)
theorem DpAll.kpd {p : Addr} {kvs : List (Key × V)} (hp : H p = some (.dK kvs)) (k : Kp p H H') : ∀ {vs : List V} {ds : List PyData}, DpAll K H vs ds → DpAll K H' vs ds
  | _, _, .nil => .nil
  | _, _, .cons h t => .cons (Dp.kpd hp k h) (DpAll.kpd hp k t)
end
end
def er1 (D : Addr) (H : Hp) : Hp := fun b => if b = D then none else H b
theorem er1_at {D b : Addr} {H : Hp} {o : HO} (h : er1 D H b = some o) : b ≠ D ∧ H b = some o := by
  unfold er1 at h
  split at h
  · cases h
  · next z => exact ⟨z, h⟩
theorem er1_of {D b : Addr} {H : Hp} {o : HO} (n : b ≠ D) (h : H b = some o) : er1 D H b = some o := by
  unfold er1
  rw [if_neg n]
  exact h
end DR
/-! ### programs -/
namespace DR
open PySem PySem.Spec PyProof.Rows L2
inductive Ins where
  | step (c : Int)
  | turn (c : Int)
  | rep (n : Int) (b : List Ins)
mutual
def shI : Ins → Int
  | .step c => c
  | .turn _ => 0
  | .rep n b => n * shP b
def shP : List Ins → Int
  | [] => 0
  | i :: r => shI i + shP r
end
mutual
def exI : Ins → Int
  | .step _ => 1
  | .turn _ => 1
  | .rep n b => n * exP b
def exP : List Ins → Int
  | [] => 0
  | i :: r => exI i + exP r
end
mutual
def dpI : Ins → Nat
  | .step _ => 0
  | .turn _ => 0
  | .rep _ b => dpP b + 1
def dpP : List Ins → Nat
  | [] => 0
  | i :: r => max (dpI i) (dpP r)
end
/-! how many instructions, inner ones too -/
mutual
def cnI : Ins → Nat
  | .step _ => 1
  | .turn _ => 1
  | .rep _ b => cnP b + 1
def cnP : List Ins → Nat
  | [] => 0
  | i :: r => cnI i + cnP r
end
/-! counts within 2 ^ 100, bodies of at most 1024 instructions -/
mutual
def WI : Ins → Prop
  | .step c => c.natAbs ≤ 2 ^ 100
  | .turn c => c.natAbs ≤ 2 ^ 100
  | .rep n b => n.natAbs ≤ 2 ^ 100 ∧ b.length ≤ 1024 ∧ WP b
def WP : List Ins → Prop
  | [] => True
  | i :: r => WI i ∧ WP r
end
theorem shP_nil : shP [] = 0 := by unfold shP; rfl
theorem shP_cons (i : Ins) (r : List Ins) : shP (i :: r) = shI i + shP r := by rw [shP]
theorem exP_nil : exP [] = 0 := by unfold exP; rfl
theorem exP_cons (i : Ins) (r : List Ins) : exP (i :: r) = exI i + exP r := by rw [exP]
theorem dpP_cons (i : Ins) (r : List Ins) : dpP (i :: r) = max (dpI i) (dpP r) := by rw [dpP]
theorem dpP_app : ∀ (a b : List Ins), dpP (a ++ b) = max (dpP a) (dpP b)
  | [], b => by
    rw [List.nil_append, show dpP [] = 0 by unfold dpP; rfl]
    omega
  | i :: r, b => by
    rw [List.cons_append, dpP_cons, dpP_cons, dpP_app r b]
    omega
theorem cnP_cons (i : Ins) (r : List Ins) : cnP (i :: r) = cnI i + cnP r := by rw [cnP]
theorem cnP_app : ∀ (a b : List Ins), cnP (a ++ b) = cnP a + cnP b
  | [], b => by
    rw [List.nil_append, show cnP [] = 0 by unfold cnP; rfl]
    omega
  | i :: r, b => by
    rw [List.cons_append, cnP_cons, cnP_cons, cnP_app r b]
    omega
theorem WP_cons (i : Ins) (r : List Ins) : WP (i :: r) = (WI i ∧ WP r) := by rw [WP]
theorem WP_app : ∀ (a b : List Ins), WP a → WP b → WP (a ++ b)
  | [], b, _, h => h
  | i :: r, b, h, h2 => by
    rw [List.cons_append, WP_cons]
    rw [WP_cons] at h
    exact ⟨h.1, WP_app r b h.2 h2⟩
theorem dpP_mem : ∀ {b : List Ins} {i : Ins}, i ∈ b → dpI i ≤ dpP b
  | [], _, h => absurd h List.not_mem_nil
  | j :: r, i, h => by
    rw [dpP_cons]
    rcases List.mem_cons.mp h with e | e
    · rw [e]; omega
    · have := dpP_mem e; omega
theorem cnP_mem : ∀ {b : List Ins} {i : Ins}, i ∈ b → cnI i ≤ cnP b
  | [], _, h => absurd h List.not_mem_nil
  | j :: r, i, h => by
    rw [cnP_cons]
    rcases List.mem_cons.mp h with e | e
    · rw [e]; omega
    · have := cnP_mem e; omega
theorem cnI_pos (i : Ins) : 0 < cnI i := by
  cases i <;> unfold cnI <;> omega
theorem len_cnP : ∀ b : List Ins, b.length ≤ cnP b
  | [] => Nat.zero_le _
  | i :: r => by
    have := len_cnP r
    have := cnI_pos i
    rw [cnP_cons, List.length_cons]
    omega
theorem pow_le2 {a b : Nat} (h : a ≤ b) : 2 ^ a ≤ 2 ^ b := Nat.pow_le_pow_right (by decide) h
/-! ### as data -/
mutual
inductive IsI : PyData → Ins → Prop
  | step (c : Int) : IsI (.tuple [.str "step", .int c]) (.step c)
  | turn (c : Int) : IsI (.tuple [.str "turn", .int c]) (.turn c)
  | rep {d : PyData} {b : List Ins} (n : Int) : IsP d b → IsI (.tuple [.str "repeat", .int n, d]) (.rep n b)
inductive IsP : PyData → List Ins → Prop
  | lst {ds : List PyData} {b : List Ins} : IsAll ds b → IsP (.list ds) b
  | tup {ds : List PyData} {b : List Ins} : IsAll ds b → IsP (.tuple ds) b
inductive IsAll : List PyData → List Ins → Prop
  | nil : IsAll [] []
  | cons {d : PyData} {i : Ins} {ds : List PyData} {b : List Ins} : IsI d i → IsAll ds b → IsAll (d :: ds) (i :: b)
end
theorem IsAll.len : ∀ {ds : List PyData} {b : List Ins}, IsAll ds b → ds.length = b.length
  | _, _, .nil => rfl
  | _, _, .cons _ t => by rw [List.length_cons, List.length_cons, IsAll.len t]
theorem IsAll.get : ∀ {ds : List PyData} {b : List Ins} {j : Nat} {d : PyData}, IsAll ds b → ds[j]? = some d → ∃ i, b[j]? = some i ∧ IsI d i
  | _, _, _, _, .nil, e => by simp at e
  | _, _, 0, _, .cons h _, e => by
    simp at e
    subst e
    exact ⟨_, rfl, h⟩
  | _, _, j + 1, d, .cons _ t, e => by
    obtain ⟨i, h1, h2⟩ := IsAll.get (j := j) (d := d) t (by simpa using e)
    exact ⟨i, by simpa using h1, h2⟩
theorem IsAll.app : ∀ {ds es : List PyData} {a b : List Ins}, IsAll ds a → IsAll es b → IsAll (ds ++ es) (a ++ b)
  | _, _, _, _, .nil, h => h
  | _, _, _, _, .cons h t, h2 => .cons h (IsAll.app t h2)
/-! shown -/
mutual
theorem isI_fits : ∀ {d : PyData} {i : Ins}, IsI d i → WI i → Fits (150 * cnI i - 2) (2 * dpI i + 1) d
  | _, _, .step c, w => by
    rw [WI] at w
    have h := fits_2 (n := 10) (k := 0) (d := .str "step") ⟨by decide +kernel, by decide +kernel, by decide +kernel, by decide +kernel⟩ (fits_int (i := c) (Nat.lt_of_le_of_lt w (by decide +kernel)))
    refine h.up ?_ ?_
    · rw [cnI]; decide
    · rw [dpI]; decide
  | _, _, .turn c, w => by
    rw [WI] at w
    have h := fits_2 (n := 10) (k := 0) (d := .str "turn") ⟨by decide +kernel, by decide +kernel, by decide +kernel, by decide +kernel⟩ (fits_int (i := c) (Nat.lt_of_le_of_lt w (by decide +kernel)))
    refine h.up ?_ ?_
    · rw [cnI]; decide
    · rw [dpI]; decide
  | _, _, .rep (d := d) (b := b) n hp, w => by
    rw [WI] at w
    have h := fits_3 (n := 10) (k := 0) (d := .str "repeat") ⟨by decide +kernel, by decide +kernel, by decide +kernel, by decide +kernel⟩ (fits_int (i := n) (Nat.lt_of_le_of_lt w.1 (by decide +kernel))) (isP_fits hp w.2.2)
    refine h.up ?_ ?_
    · rw [cnI]; omega
    · rw [dpI]; omega
theorem isP_fits : ∀ {d : PyData} {b : List Ins}, IsP d b → WP b → Fits (150 * cnP b + 5) (2 * dpP b + 2) d
  | _, _, .lst (ds := ds) h, w => by
    obtain ⟨a1, a2, a3, a4, a5⟩ := isAll_fits h w
    refine ⟨a1, a2, ?_, ?_⟩
    · show PyData.depthAll ds + 1 ≤ _
      omega
    · show (listText (PyData.shownAll ds)).length ≤ _
      have := listText_len_le (PyData.shownAll ds)
      omega
  | _, _, .tup (ds := ds) h, w => by
    obtain ⟨a1, a2, a3, a4, a5⟩ := isAll_fits h w
    refine ⟨a1, a2, ?_, ?_⟩
    · show PyData.depthAll ds + 1 ≤ _
      omega
    · show (tupleText (PyData.shownAll ds)).length ≤ _
      have := tupleText_len_le (PyData.shownAll ds)
      omega
theorem isAll_fits : ∀ {ds : List PyData} {b : List Ins}, IsAll ds b → WP b → PyData.showableAll ds = true ∧ PyData.hasDictAll ds = false ∧ PyData.depthAll ds ≤ 2 * dpP b + 1 ∧ ((PyData.shownAll ds).map (·.length)).sum + 2 * (PyData.shownAll ds).length ≤ 150 * cnP b ∧ (PyData.shownAll ds).length = b.length
  | _, _, .nil, _ => ⟨rfl, rfl, Nat.zero_le _, Nat.le_refl _, rfl⟩
  | _, _, .cons (d := d) (i := i) (ds := ds) (b := b) h t, w => by
    rw [WP_cons] at w
    obtain ⟨a1, a2, a3, a4, a5⟩ := isAll_fits t w.2
    obtain ⟨b1, b2, b3, b4⟩ := isI_fits h w.1
    refine ⟨?_, ?_, ?_, ?_, ?_⟩
    · show (d.showable && PyData.showableAll ds) = true
      rw [a1, b1]
      rfl
    · show (d.hasDict || PyData.hasDictAll ds) = false
      rw [a2, b2]
      rfl
    · show max d.depth (PyData.depthAll ds) ≤ _
      rw [dpP_cons]
      omega
    · show (d.shown.length :: ((PyData.shownAll ds).map (·.length))).sum + 2 * ((PyData.shownAll ds).length + 1) ≤ _
      have := cnI_pos i
      rw [List.sum_cons, cnP_cons]
      omega
    · show (PyData.shownAll ds).length + 1 = _
      rw [a5, List.length_cons]
end
end DR
namespace DR
open PySem PySem.Spec PyProof.Rows L2
/-! ### a call by keywords alone -/
/-! ### least and greatest -/
def loL (x : Int) (r : List Int) : Int := r.foldr min x
def hiL (x : Int) (r : List Int) : Int := r.foldr max x
/-! ### the length of an effect -/
def places (f : Pol) (m : Int) : List Int := m :: f.map (·.1)
def lo (f : Pol) (m : Int) : Int := loL 0 (places f m)
def hi (f : Pol) (m : Int) : Int := hiL 0 (places f m)
/-! ### effects that the laws draw -/
end DR
namespace DR
open PySem PySem.Spec PyProof.Rows L2
theorem iteS {c A B : Prop} [Decidable c] (hc : c) (h : A) : if decide c = true then A else B := by
  rw [if_pos (decide_eq_true hc)]
  exact h
theorem iteN {c A B : Prop} [Decidable c] (hc : ¬ c) (h : B) : if decide c = true then A else B := by
  rw [if_neg (by rw [decide_eq_false hc]; exact Bool.false_ne_true)]
  exact h
theorem iteNN {c A B : Prop} [Decidable c] (hc : ¬ c) (h : A) : if (!decide c) = true then A else B := by
  rw [if_pos (by rw [decide_eq_false hc]; rfl)]
  exact h
theorem v_sr : ¬ (V.str "step" = V.str "repeat") := by decide +kernel
theorem v_tr : ¬ (V.str "turn" = V.str "repeat") := by decide +kernel
/-! ### a def that calls itself: a level for each depth -/
theorem cal_rec {P : Program} {w : World} {K : PySem.W.Frag} {mg : Str → Option Value} {base : Heap} {x : Str} {st : Stmt} {ps : List Str} (c : Nat) {sp : Nat → Sp} (D : Df K mg x st)
    (b : ∀ (kV doc pm : Value) (an : Option Addr) (cdv ct : Value) (us : List Value), us.length = ps.length → bindArgs (PySem.W.fnOf x x (defArgs st) (defBody st) (defScope st) .none kV doc pm an cdv ct) ⟨us, []⟩ = pure (ps.zip us))
    (h0 : ∀ vs H Q E, ¬ sp 0 vs H Q E)
    (step : ∀ k, Cal P w K mg base (k + c) x (sp k) → ∀ f fd, Fun K x x st f fd → FnOk P w K mg base CX0 (k + c + 1) f fd ps (sp (k + 1))) : ∀ k, Cal P w K mg base (k + c) x (sp k)
  | 0 => by
    obtain ⟨f, fd, F, hm, kp⟩ := D.ex
    exact ⟨f, fd, ps, ⟨fun vs H Q E h => absurd h (h0 vs H Q E), fun A outer s H args us vs Q E _ _ _ _ h => absurd h (h0 vs H Q E)⟩, hm, kp, F.binds b⟩
  | k + 1 => by
    obtain ⟨f, fd, F, hm, kp⟩ := D.ex
    have := step k (cal_rec c D b h0 step k) f fd F
    exact ⟨f, fd, ps, (show k + c + 1 = k + 1 + c by omega) ▸ this, hm, kp, F.binds b⟩
/-! ### programs in the heap -/
def PV (K : PySem.W.Frag) (H : Hp) (v : V) (b : List Ins) : Prop := ∃ d, Dp K H v d ∧ IsP d b
def IV (K : PySem.W.Frag) (H : Hp) (v : V) (i : Ins) : Prop := ∃ d, Dp K H v d ∧ IsI d i
abbrev IVs (K : PySem.W.Frag) (H : Hp) : List V → List Ins → Prop := Paired (IV K H)
section
variable {K : PySem.W.Frag} {H H' : Hp} {v x : V} {b : List Ins} {i : Ins} {xs : List V}
theorem PV.same (e : Same H H') (h : PV K H v b) : PV K H' v b := h.elim fun d z => ⟨d, Dp.same e z.1, z.2⟩
theorem IV.same (e : Same H H') (h : IV K H v i) : IV K H' v i := h.elim fun d z => ⟨d, Dp.same e z.1, z.2⟩
theorem PV.kp {p c : Addr} {n : Nat} (pen : PenAt H p c n) (k : Kp p H H') (h : PV K H v b) : PV K H' v b := h.elim fun d z => ⟨d, Dp.kp pen k z.1, z.2⟩
theorem IV.kp {p c : Addr} {n : Nat} (pen : PenAt H p c n) (k : Kp p H H') (h : IV K H v i) : IV K H' v i := h.elim fun d z => ⟨d, Dp.kp pen k z.1, z.2⟩
theorem IVs.same (e : Same H H') : ∀ {xs : List V} {b : List Ins}, IVs K H xs b → IVs K H' xs b
  | _, _, .nil => .nil
  | _, _, .cons r q => .cons (r.same e) (IVs.same e q)
theorem IVs.kp {p c : Addr} {n : Nat} (pen : PenAt H p c n) (k : Kp p H H') : ∀ {xs : List V} {b : List Ins}, IVs K H xs b → IVs K H' xs b
  | _, _, .nil => .nil
  | _, _, .cons r q => .cons (r.kp pen k) (IVs.kp pen k q)
theorem IVs.len (h : IVs K H xs b) : xs.length = b.length := Paired.length h
theorem IVs.get : ∀ {xs : List V} {b : List Ins} {j : Nat} {x : V}, IVs K H xs b → xs[j]? = some x → ∃ i, b[j]? = some i ∧ IV K H x i
  | _, _, _, _, .nil, e => by simp at e
  | _, _, 0, _, .cons r _, e => by
    simp at e
    subst e
    exact ⟨_, rfl, r⟩
  | _, _, j + 1, x, .cons _ q, e => by
    obtain ⟨t, h1, h2⟩ := IVs.get (j := j) (x := x) q (by simpa using e)
    exact ⟨t, by simpa using h1, h2⟩
theorem IVs.app : ∀ {xs ys : List V} {b c : List Ins}, IVs K H xs b → IVs K H ys c → IVs K H (xs ++ ys) (b ++ c)
  | _, _, _, _, .nil, h => h
  | _, _, _, _, .cons r q, h => .cons r (IVs.app q h)
theorem IVs.take : ∀ {xs : List V} {b : List Ins} (n : Nat), IVs K H xs b → IVs K H (xs.take n) (b.take n)
  | _, _, 0, _ => .nil
  | _, _, n + 1, .nil => .nil
  | _, _, n + 1, .cons r q => .cons r (IVs.take n q)
theorem IVs.drop : ∀ {xs : List V} {b : List Ins} (n : Nat), IVs K H xs b → IVs K H (xs.drop n) (b.drop n)
  | _, _, 0, h => h
  | _, _, n + 1, .nil => .nil
  | _, _, n + 1, .cons r q => IVs.drop n q
theorem IVs.all : ∀ {xs : List V} {b : List Ins}, IVs K H xs b → ∃ ds, DpAll K H xs ds ∧ IsAll ds b
  | _, _, .nil => ⟨[], .nil, .nil⟩
  | _, _, .cons ⟨d, h1, h2⟩ q => by
    obtain ⟨ds, a1, a2⟩ := IVs.all q
    exact ⟨d :: ds, .cons h1 a1, .cons h2 a2⟩
theorem ivs_of : ∀ {xs : List V} {ds : List PyData} {b : List Ins}, DpAll K H xs ds → IsAll ds b → IVs K H xs b
  | _, _, _, .nil, .nil => .nil
  | _, _, _, .cons h t, .cons h2 t2 => .cons ⟨_, h, h2⟩ (ivs_of t t2)
theorem pv_list {a : Addr} (h : SqL K H a xs) (hI : IVs K H xs b) : PV K H (.ref a) b := by
  obtain ⟨ds, a1, a2⟩ := hI.all
  exact ⟨_, .lst h a1, .lst a2⟩
theorem pv_tup {a : Addr} (h : SqT K H a xs) (hI : IVs K H xs b) : PV K H (.ref a) b := by
  obtain ⟨ds, a1, a2⟩ := hI.all
  exact ⟨_, .tup h a1, .tup a2⟩
theorem PV.inv (h : PV K H v b) : ∃ a xs, v = .ref a ∧ (SqL K H a xs ∨ SqT K H a xs) ∧ IVs K H xs b := by
  obtain ⟨d, hd, hp⟩ := h
  cases hp with
  | lst ha =>
    cases hd with
    | lst hs hall => exact ⟨_, _, rfl, .inl hs, ivs_of hall ha⟩
  | tup ha =>
    cases hd with
    | tup hs hall => exact ⟨_, _, rfl, .inr hs, ivs_of hall ha⟩
theorem IV.inv (h : IV K H x i) : (∃ a c, x = .ref a ∧ SqT K H a [.str "step", .int c] ∧ i = .step c) ∨ (∃ a c, x = .ref a ∧ SqT K H a [.str "turn", .int c] ∧ i = .turn c) ∨
    ∃ a n y bb, x = .ref a ∧ SqT K H a [.str "repeat", .int n, y] ∧ PV K H y bb ∧ i = .rep n bb := by
  obtain ⟨d, hd, hi⟩ := h
  cases hi with
  | step c =>
    obtain ⟨a, xs, rfl, hs, hall⟩ := Dp.tup_inv hd
    cases hall with
    | cons h1 t =>
      cases t with
      | cons h2 t2 =>
        cases t2
        cases h1
        cases h2
        exact .inl ⟨a, c, rfl, hs, rfl⟩
  | turn c =>
    obtain ⟨a, xs, rfl, hs, hall⟩ := Dp.tup_inv hd
    cases hall with
    | cons h1 t =>
      cases t with
      | cons h2 t2 =>
        cases t2
        cases h1
        cases h2
        exact .inr (.inl ⟨a, c, rfl, hs, rfl⟩)
  | rep n hp =>
    obtain ⟨a, xs, rfl, hs, hall⟩ := Dp.tup_inv hd
    cases hall with
    | cons h1 t =>
      cases t with
      | cons h2 t2 =>
        cases t2 with
        | cons h3 t3 =>
          cases t3
          cases h1
          cases h2
          exact .inr (.inr ⟨a, n, _, _, rfl, hs, ⟨_, h3, hp⟩, rfl⟩)
theorem iv_step {a : Addr} {c : Int} (h : SqT K H a [.str "step", .int c]) : IV K H (.ref a) (.step c) := ⟨_, .tup h (.cons (.str _) (.cons (.int _) .nil)), .step c⟩
theorem iv_turn {a : Addr} {c : Int} (h : SqT K H a [.str "turn", .int c]) : IV K H (.ref a) (.turn c) := ⟨_, .tup h (.cons (.str _) (.cons (.int _) .nil)), .turn c⟩
theorem iv_rep {a : Addr} {n : Int} {y : V} {bb : List Ins} (h : SqT K H a [.str "repeat", .int n, y]) (hp : PV K H y bb) : IV K H (.ref a) (.rep n bb) := by
  obtain ⟨d, hd, hp⟩ := hp
  exact ⟨_, .tup h (.cons (.str _) (.cons (.int _) (.cons hd .nil))), .rep n hp⟩
end
/-! flat instructions: steps and turns alone; they stay while tuples stay -/
def FI (K : PySem.W.Frag) (H : Hp) (x : V) (i : Ins) : Prop := (∃ a c, x = .ref a ∧ SqT K H a [.str "step", .int c] ∧ i = .step c) ∨ (∃ a c, x = .ref a ∧ SqT K H a [.str "turn", .int c] ∧ i = .turn c)
abbrev FIs (K : PySem.W.Frag) (H : Hp) : List V → List Ins → Prop := Paired (FI K H)
section
variable {K : PySem.W.Frag} {H H' : Hp} {v x : V} {b : List Ins} {i : Ins} {xs : List V}
theorem FI.tp (t : Tp H H') (h : FI K H x i) : FI K H' x i := by
  rcases h with ⟨a, c, e, hs, ei⟩ | ⟨a, c, e, hs, ei⟩
  · exact .inl ⟨a, c, e, tp_t t hs, ei⟩
  · exact .inr ⟨a, c, e, tp_t t hs, ei⟩
theorem FI.iv (h : FI K H x i) : IV K H x i := by
  rcases h with ⟨a, c, rfl, hs, rfl⟩ | ⟨a, c, rfl, hs, rfl⟩
  · exact iv_step hs
  · exact iv_turn hs
theorem FIs.tp (t : Tp H H') : ∀ {xs : List V} {b : List Ins}, FIs K H xs b → FIs K H' xs b
  | _, _, .nil => .nil
  | _, _, .cons r q => .cons (r.tp t) (FIs.tp t q)
theorem FIs.ivs : ∀ {xs : List V} {b : List Ins}, FIs K H xs b → IVs K H xs b
  | _, _, .nil => .nil
  | _, _, .cons r q => .cons r.iv (FIs.ivs q)
theorem FIs.snoc : ∀ {xs : List V} {b : List Ins}, FIs K H xs b → FI K H x i → FIs K H (xs ++ [x]) (b ++ [i])
  | _, _, .nil, h => .cons h .nil
  | _, _, .cons r q, h => .cons r (FIs.snoc q h)
theorem FIs.len (h : FIs K H xs b) : xs.length = b.length := Paired.length h
end
def isFlat : Ins → Prop
  | .rep _ _ => False
  | _ => True
def cntOf : Ins → Int
  | .step c => c
  | .turn c => c
  | .rep n _ => n
/-- a body of steps and turns: so many, with counts within reach -/
structure Flat (b : List Ins) (N : Nat) (R : Nat) : Prop where
  len : b.length ≤ N
  flat : ∀ i ∈ b, isFlat i
  cnt : ∀ i ∈ b, (cntOf i).natAbs ≤ R
theorem Flat.dp : ∀ {b : List Ins} {N R : Nat}, Flat b N R → dpP b = 0
  | [], _, _, _ => by unfold dpP; rfl
  | i :: r, N, R, h => by
    have h1 := h.flat i List.mem_cons_self
    have h2 : dpI i = 0 := by cases i <;> first | exact absurd h1 id | (rw [dpI])
    rw [dpP_cons, h2, Flat.dp (b := r) (N := N) (R := R) ⟨by have := h.len; rw [List.length_cons] at this; omega, fun j hj => h.flat j (List.mem_cons_of_mem _ hj), fun j hj => h.cnt j (List.mem_cons_of_mem _ hj)⟩]
    rfl
theorem Flat.w : ∀ {b : List Ins} {N R : Nat}, Flat b N R → R ≤ 2 ^ 100 → WP b
  | [], _, _, _, _ => by rw [WP]; trivial
  | i :: r, N, R, h, hR => by
    have h1 := h.flat i List.mem_cons_self
    have h3 := h.cnt i List.mem_cons_self
    rw [WP_cons]
    refine ⟨?_, Flat.w (b := r) (N := N) (R := R) ⟨by have := h.len; rw [List.length_cons] at this; omega, fun j hj => h.flat j (List.mem_cons_of_mem _ hj), fun j hj => h.cnt j (List.mem_cons_of_mem _ hj)⟩ hR⟩
    cases i with
    | step c => rw [WI]; exact Nat.le_trans h3 hR
    | turn c => rw [WI]; exact Nat.le_trans h3 hR
    | rep n b => exact absurd h1 id
theorem Flat.cn : ∀ {b : List Ins} {N R : Nat}, Flat b N R → cnP b = b.length
  | [], _, _, _ => by unfold cnP; rfl
  | i :: r, N, R, h => by
    have h1 := h.flat i List.mem_cons_self
    have h2 : cnI i = 1 := by cases i <;> first | exact absurd h1 id | (rw [cnI])
    rw [cnP_cons, h2, Flat.cn (b := r) (N := N) (R := R) ⟨by have := h.len; rw [List.length_cons] at this; omega, fun j hj => h.flat j (List.mem_cons_of_mem _ hj), fun j hj => h.cnt j (List.mem_cons_of_mem _ hj)⟩, List.length_cons]
    omega
/-- a program of the laws: depth, counts, how many instructions -/
structure PrOk (b : List Ins) (k N : Nat) : Prop where
  dp : dpP b ≤ k
  w : WP b
  cn : cnP b ≤ N
theorem Flat.ok {b : List Ins} {N R : Nat} (h : Flat b N R) (hR : R ≤ 2 ^ 100) : PrOk b 0 N := ⟨Nat.le_of_eq h.dp, h.w hR, by rw [h.cn]; exact h.len⟩
theorem PrOk.app {b c : List Ins} {k j N M : Nat} (h : PrOk b k N) (h2 : PrOk c j M) : PrOk (b ++ c) (max k j) (N + M) := ⟨by rw [dpP_app]; have := h.dp; have := h2.dp; omega, WP_app _ _ h.w h2.w, by rw [cnP_app]; have := h.cn; have := h2.cn; omega⟩
theorem PrOk.rep {b : List Ins} {k N : Nat} (h : PrOk b k N) (hN : N ≤ 1024) {n : Int} (hn : n.natAbs ≤ 2 ^ 100) : PrOk [.rep n b] (k + 1) (N + 1) := by
  refine ⟨?_, ?_, ?_⟩
  · rw [dpP_cons, dpI, show dpP [] = 0 by unfold dpP; rfl]
    have := h.dp
    omega
  · rw [WP_cons, WI]
    exact ⟨⟨hn, Nat.le_trans (len_cnP b) (Nat.le_trans h.cn hN), h.w⟩, by rw [WP]; trivial⟩
  · rw [cnP_cons, cnI, show cnP [] = 0 by unfold cnP; rfl]
    have := h.cn
    omega
theorem PrOk.up {b : List Ins} {k N k' N' : Nat} (h : PrOk b k N) (a : k ≤ k') (c : N ≤ N') : PrOk b k' N' := ⟨Nat.le_trans h.dp a, h.w, Nat.le_trans h.cn c⟩
end DR
/-! ### the tokens of programs, and how they are read -/
namespace DR
open PySem PySem.Spec PyProof.Rows L2 TL
mutual
def tkI : Ins → List Str
  | .step c => ["step", ctS c]
  | .turn c => ["turn", ctS c]
  | .rep n b => [("repeat" : Str), ctS n, "["] ++ (tkP b ++ [("]" : Str)])
def tkP : List Ins → List Str
  | [] => []
  | i :: r => tkI i ++ tkP r
end
theorem tkP_nil : tkP [] = [] := by unfold tkP; rfl
theorem tkP_cons (i : Ins) (r : List Ins) : tkP (i :: r) = tkI i ++ tkP r := by rw [tkP]
theorem tkP_app : ∀ a b : List Ins, tkP (a ++ b) = tkP a ++ tkP b
  | [], b => by rw [List.nil_append, tkP_nil, List.nil_append]
  | i :: r, b => by rw [List.cons_append, tkP_cons, tkP_cons, tkP_app r b, List.append_assoc]
theorem tkI_ne (i : Ins) : tkI i ≠ [] := by cases i <;> unfold tkI <;> simp
/-! how many repeats -/
mutual
def rpI : Ins → Nat
  | .step _ => 0
  | .turn _ => 0
  | .rep _ b => rpP b + 1
def rpP : List Ins → Nat
  | [] => 0
  | i :: r => rpI i + rpP r
end
theorem rpP_nil : rpP [] = 0 := by unfold rpP; rfl
theorem rpP_cons (i : Ins) (r : List Ins) : rpP (i :: r) = rpI i + rpP r := by rw [rpP]
theorem cnP_nil' : cnP [] = 0 := by unfold cnP; rfl
/-! counts as the document bounds them -/
mutual
def CtI : Ins → Prop
  | .step c => c.natAbs ≤ 10 ^ 30
  | .turn c => c.natAbs ≤ 10 ^ 30
  | .rep n b => 0 ≤ n ∧ n ≤ 10 ^ 30 ∧ CtP b
def CtP : List Ins → Prop
  | [] => True
  | i :: r => CtI i ∧ CtP r
end
theorem CtP_cons (i : Ins) (r : List Ins) : CtP (i :: r) = (CtI i ∧ CtP r) := by rw [CtP]
theorem CtP_mem : ∀ {b : List Ins} {i : Ins}, CtP b → i ∈ b → CtI i
  | [], _, _, h => absurd h List.not_mem_nil
  | j :: r, i, w, h => by
    rw [CtP_cons] at w
    rcases List.mem_cons.mp h with e | e
    · rw [e]; exact w.1
    · exact CtP_mem w.2 e
/-! no blank in a token, none empty, few signs -/
theorem word_free : (32 ∉ tl ("step" : Str) ∧ 32 ∉ tl ("turn" : Str) ∧ 32 ∉ tl ("repeat" : Str) ∧ 32 ∉ tl ("[" : Str) ∧ 32 ∉ tl ("]" : Str)) ∧
    (tl ("step" : Str) ≠ [] ∧ tl ("turn" : Str) ≠ [] ∧ tl ("repeat" : Str) ≠ [] ∧ tl ("[" : Str) ≠ [] ∧ tl ("]" : Str) ≠ []) := by decide +kernel
mutual
theorem tkI_free : ∀ {i : Ins} {t : Str}, t ∈ tkI i → 32 ∉ tl t ∧ tl t ≠ []
  | .step c, t, h => by
    unfold tkI at h
    rcases List.mem_cons.mp h with rfl | h
    · exact ⟨word_free.1.1, word_free.2.1⟩
    · rw [List.mem_singleton.mp h]
      exact ⟨ct_free c, ct_ne c⟩
  | .turn c, t, h => by
    unfold tkI at h
    rcases List.mem_cons.mp h with rfl | h
    · exact ⟨word_free.1.2.1, word_free.2.2.1⟩
    · rw [List.mem_singleton.mp h]
      exact ⟨ct_free c, ct_ne c⟩
  | .rep n b, t, h => by
    rw [tkI] at h
    rcases List.mem_append.mp h with h | h
    · rcases List.mem_cons.mp h with rfl | h
      · exact ⟨word_free.1.2.2.1, word_free.2.2.2.1⟩
      rcases List.mem_cons.mp h with rfl | h
      · exact ⟨ct_free n, ct_ne n⟩
      rw [List.mem_singleton.mp h]
      exact ⟨word_free.1.2.2.2.1, word_free.2.2.2.2.1⟩
    · rcases List.mem_append.mp h with h | h
      · exact tkP_free h
      · rw [List.mem_singleton.mp h]
        exact ⟨word_free.1.2.2.2.2, word_free.2.2.2.2.2⟩
theorem tkP_free : ∀ {b : List Ins} {t : Str}, t ∈ tkP b → 32 ∉ tl t ∧ tl t ≠ []
  | [], t, h => by
    rw [tkP_nil] at h
    exact absurd h List.not_mem_nil
  | i :: r, t, h => by
    rw [tkP_cons] at h
    rcases List.mem_append.mp h with h | h
    · exact tkI_free h
    · exact tkP_free h
end
mutual
theorem tkI_len : ∀ {i : Ins}, CtI i → (tkI i).length ≤ 4 * cnI i ∧ ∀ t ∈ tkI i, t.length ≤ 32
  | .step c, h => by
    rw [CtI] at h
    rw [tkI, cnI]
    refine ⟨(by decide : 2 ≤ 4 * 1), fun t ht => ?_⟩
    rcases List.mem_cons.mp ht with rfl | ht
    · exact (by decide +kernel : ("step" : Str).length ≤ 32)
    · rw [List.mem_singleton.mp ht]
      exact ct_short h
  | .turn c, h => by
    rw [CtI] at h
    rw [tkI, cnI]
    refine ⟨(by decide : 2 ≤ 4 * 1), fun t ht => ?_⟩
    rcases List.mem_cons.mp ht with rfl | ht
    · exact (by decide +kernel : ("turn" : Str).length ≤ 32)
    · rw [List.mem_singleton.mp ht]
      exact ct_short h
  | .rep n b, h => by
    rw [CtI] at h
    have ih := tkP_len h.2.2
    rw [tkI, cnI]
    refine ⟨?_, fun t ht => ?_⟩
    · rw [List.length_append, List.length_append]
      have := ih.1
      show 3 + ((tkP b).length + 1) ≤ _
      omega
    · rcases List.mem_append.mp ht with ht | ht
      · rcases List.mem_cons.mp ht with rfl | ht
        · exact (by decide +kernel : ("repeat" : Str).length ≤ 32)
        rcases List.mem_cons.mp ht with rfl | ht
        · exact ct_short (by omega)
        rw [List.mem_singleton.mp ht]
        exact (by decide +kernel : ("[" : Str).length ≤ 32)
      · rcases List.mem_append.mp ht with ht | ht
        · exact ih.2 t ht
        · rw [List.mem_singleton.mp ht]
          exact (by decide +kernel : ("]" : Str).length ≤ 32)
theorem tkP_len : ∀ {b : List Ins}, CtP b → (tkP b).length ≤ 4 * cnP b ∧ ∀ t ∈ tkP b, t.length ≤ 32
  | [], _ => by
    rw [tkP_nil, cnP_nil']
    exact ⟨Nat.le_refl _, fun t ht => absurd ht List.not_mem_nil⟩
  | i :: r, h => by
    rw [CtP_cons] at h
    have h1 := tkI_len h.1
    have h2 := tkP_len h.2
    rw [tkP_cons, cnP_cons]
    refine ⟨by rw [List.length_append]; omega, fun t ht => ?_⟩
    rcases List.mem_append.mp ht with ht | ht
    · exact h1.2 t ht
    · exact h2.2 t ht
end
/-- the text of a program -/
def txP (b : List Ins) : Str := jn (tkP b)
theorem sum_le {α : Type} (f : α → Nat) (M : Nat) : ∀ {l : List α}, (∀ x ∈ l, f x ≤ M) → (l.map f).sum ≤ l.length * M
  | [], _ => by simp
  | x :: l, h => by
    have h1 := h x List.mem_cons_self
    have h2 := sum_le f M fun y hy => h y (List.mem_cons_of_mem _ hy)
    rw [List.map_cons, List.sum_cons, List.length_cons, Nat.succ_mul]
    omega
theorem tx_len {b : List Ins} (h : CtP b) : (txP b).length ≤ 132 * cnP b := by
  have ⟨h1, h2⟩ := tkP_len h
  have h3 := jn_len (tkP b)
  have h4 := sum_le (fun t : Str => t.length + 1) 33 (l := tkP b) fun t ht => by have := h2 t ht; omega
  unfold txP
  have : (tkP b).length * 33 ≤ 4 * cnP b * 33 := Nat.mul_le_mul_right _ h1
  omega
/-- what a text is split into: nothing for the empty text -/
def tksOf (t : Str) : List Str := if t.length = 0 then [] else Txt.split t " "
theorem tx_back (b : List Ins) : tksOf (txP b) = tkP b := by
  unfold tksOf txP
  by_cases h : tkP b = []
  · rw [h, jn_nil, if_pos (by decide)]
  · have ne := jn_ne h fun t ht => (tkP_free ht).2
    rw [if_neg (by rw [len_tl]; exact fun z => ne (List.length_eq_zero_iff.mp z)), split_jn h fun t ht => (tkP_free ht).1]
/-! ### the reader -/
structure RS where
  p : Nat
  n : Nat
  r : Nat
inductive Rd (α : Type) where
  | bad (k : Nat)
  | ok (a : α) (s : RS)
def rdW (T : List Str) (k : Nat) (s : RS) : Rd Str := match T[s.p]? with
  | none => .bad s.p
  | some w => if ¬ (w = "step" ∨ w = "turn" ∨ w = "repeat") ∨ s.n = 100 then .bad s.p else
      if w = "repeat" ∧ (k = 0 ∨ s.r = 5) then .bad s.p else .ok w ⟨s.p + 1, s.n + 1, if w = "repeat" then s.r + 1 else s.r⟩
def rdC (T : List Str) (least : Int) (s : RS) : Rd Int := match T[s.p]? with
  | none => .bad s.p
  | some t => match ctOf t with
    | none => .bad s.p
    | some c => if c < least then .bad s.p else .ok c ⟨s.p + 1, s.n, s.r⟩
def rdB (T : List Str) (s : RS) : Rd Unit := match T[s.p]? with
  | none => .bad s.p
  | some t => if t = "[" then .ok () ⟨s.p + 1, s.n, s.r⟩ else .bad s.p
def rdL (T : List Str) (one : RS → Rd Ins) : Nat → RS → Rd (List Ins)
  | 0, s => .bad s.p
  | f + 1, s => match T[s.p]? with
    | none => .bad s.p
    | some t => if t = "]" then .ok [] ⟨s.p + 1, s.n, s.r⟩ else match one s with
      | .bad q => .bad q
      | .ok i s1 => match rdL T one f s1 with
        | .bad q => .bad q
        | .ok is s2 => .ok (i :: is) s2
def rdO (T : List Str) (k : Nat) (inner : RS → Rd (List Ins)) (s : RS) : Rd Ins := match rdW T k s with
  | .bad q => .bad q
  | .ok w s1 => if w ≠ "repeat" then (match rdC T (-(10 ^ 30)) s1 with
      | .bad q => .bad q
      | .ok c s2 => .ok (if w = "step" then .step c else .turn c) s2) else (match rdC T 0 s1 with
      | .bad q => .bad q
      | .ok c s2 => match rdB T s2 with
        | .bad q => .bad q
        | .ok _ s3 => match inner s3 with
          | .bad q => .bad q
          | .ok b s4 => .ok (.rep c b) s4)
def rdI (T : List Str) : Nat → RS → Rd Ins
  | 0 => rdO T 0 fun s => .bad s.p
  | k + 1 => rdO T (k + 1) fun s => rdL T (rdI T k) (T.length + 1) s
def rdP (T : List Str) : Nat → RS → Rd (List Ins)
  | 0, s => .bad s.p
  | f + 1, s => if s.p = T.length then .ok [] s else match rdI T 2 s with
    | .bad q => .bad q
    | .ok i s1 => match rdP T f s1 with
      | .bad q => .bad q
      | .ok is s2 => .ok (i :: is) s2
def readT (T : List Str) : Rd (List Ins) := rdP T (T.length + 1) ⟨0, 0, 0⟩
/-! each reading goes on, within the tokens -/
theorem rdW_ok {T : List Str} {k : Nat} {s s1 : RS} {w : Str} (h : rdW T k s = .ok w s1) : T[s.p]? = some w ∧ s1.p = s.p + 1 ∧ s1.n = s.n + 1 ∧ s.n ≠ 100 ∧ (w = "step" ∨ w = "turn" ∨ w = "repeat") ∧ s1.r = (if w = "repeat" then s.r + 1 else s.r) ∧ (w = "repeat" → k ≠ 0 ∧ s.r ≠ 5) := by
  unfold rdW at h
  split at h
  · cases h
  · next w' e =>
    split at h
    · cases h
    · next g1 =>
      split at h
      · cases h
      · next g2 =>
        cases h
        refine ⟨e, rfl, rfl, fun z => g1 (.inr z), ?_, rfl, fun z => ⟨fun y => g2 ⟨z, .inl y⟩, fun y => g2 ⟨z, .inr y⟩⟩⟩
        exact Decidable.not_not.mp fun z => g1 (.inl z)
theorem rdC_ok {T : List Str} {m : Int} {s s1 : RS} {c : Int} (h : rdC T m s = .ok c s1) : s.p < T.length ∧ s1.p = s.p + 1 ∧ s1.n = s.n ∧ s1.r = s.r ∧ m ≤ c ∧ c.natAbs ≤ 10 ^ 30 := by
  unfold rdC at h
  split at h
  · cases h
  · next t e =>
    split at h
    · cases h
    · next c' e2 =>
      split at h
      · cases h
      · next g =>
        cases h
        refine ⟨(List.getElem?_eq_some_iff.mp e).1, rfl, rfl, rfl, by omega, ?_⟩
        unfold ctOf at e2
        split at e2
        · next g2 =>
          cases e2
          exact g2.2
        · cases e2
theorem rdB_ok {T : List Str} {s s1 : RS} {u : Unit} (h : rdB T s = .ok u s1) : s.p < T.length ∧ s1.p = s.p + 1 ∧ s1.n = s.n ∧ s1.r = s.r := by
  unfold rdB at h
  split at h
  · cases h
  · next t e =>
    split at h
    · cases h
      exact ⟨(List.getElem?_eq_some_iff.mp e).1, rfl, rfl, rfl⟩
    · cases h
/-- what may be said of a reading: it goes on, n and r count what was read, counts and depth are bounded -/
structure GoI (T : List Str) (k : Nat) (s : RS) (i : Ins) (s1 : RS) : Prop where
  p : s.p < s1.p
  q : s1.p ≤ T.length
  n : s1.n = s.n + cnI i
  n1 : s.n < 100 → s1.n ≤ 100
  r : s1.r = s.r + rpI i
  r1 : s.r ≤ 5 → s1.r ≤ 5
  g : CtI i
  d : dpI i ≤ k
structure GoP (T : List Str) (k : Nat) (s : RS) (b : List Ins) (s1 : RS) : Prop where
  p : s.p ≤ s1.p
  q : s1.p ≤ T.length
  n : s1.n = s.n + cnP b
  n1 : s.n ≤ 100 → s1.n ≤ 100
  r : s1.r = s.r + rpP b
  r1 : s.r ≤ 5 → s1.r ≤ 5
  g : CtP b
  d : dpP b ≤ k
theorem dpP_nil' : dpP [] = 0 := by unfold dpP; rfl
theorem rdL_ok {T : List Str} {one : RS → Rd Ins} {k : Nat} (h1 : ∀ s i s1, s.p ≤ T.length → s.n ≤ 100 → one s = .ok i s1 → GoI T k s i s1 ∧ s1.n ≤ 100) : ∀ {f : Nat} {s s1 : RS} {b : List Ins}, s.p ≤ T.length → s.n ≤ 100 → rdL T one f s = .ok b s1 → GoP T k s b s1 ∧ s.p < s1.p
  | 0, s, s1, b, _, _, h => by
    unfold rdL at h
    cases h
  | f + 1, s, s1, b, hp, hn, h => by
    unfold rdL at h
    split at h
    · cases h
    · next t e =>
      have hlt := (List.getElem?_eq_some_iff.mp e).1
      split at h
      · cases h
        exact ⟨⟨Nat.le_succ _, hlt, by rw [cnP_nil']; rfl, fun z => z, by rw [rpP_nil]; rfl, fun z => z, by unfold CtP; trivial, by rw [dpP_nil']; exact Nat.zero_le _⟩, Nat.lt_succ_self _⟩
      · split at h
        · cases h
        · next i s2 e2 =>
          obtain ⟨g, gn⟩ := h1 _ _ _ hp hn e2
          split at h
          · cases h
          · next is s3 e3 =>
            cases h
            obtain ⟨G, gp⟩ := rdL_ok h1 (f := f) g.q gn e3
            refine ⟨⟨by have := g.p; omega, G.q, by rw [G.n, g.n, cnP_cons, Nat.add_assoc], fun _ => G.n1 gn, by rw [G.r, g.r, rpP_cons, Nat.add_assoc], fun z => G.r1 (g.r1 z), by rw [CtP_cons]; exact ⟨g.g, G.g⟩, ?_⟩, by have := g.p; omega⟩
            rw [dpP_cons]
            have := g.d
            have := G.d
            omega
theorem rdO_ok {T : List Str} {k : Nat} {inner : RS → Rd (List Ins)} {s s1 : RS} {i : Ins} (hin : ∀ s b s1, s.p ≤ T.length → s.n ≤ 100 → inner s = .ok b s1 → GoP T (k - 1) s b s1 ∧ k ≠ 0) (hn : s.n ≤ 100) (h : rdO T k inner s = .ok i s1) : GoI T k s i s1 ∧ s1.n ≤ 100 := by
  unfold rdO at h
  split at h
  · cases h
  · next w s2 e2 =>
    obtain ⟨a1, a2, a3, a4, a5, a6, a7⟩ := rdW_ok e2
    have hlt := (List.getElem?_eq_some_iff.mp a1).1
    split at h
    · next hw =>
      rw [if_neg hw] at a6
      split at h
      · cases h
      · next c s3 e3 =>
        obtain ⟨b1, b2, b3, b4, b5, b6⟩ := rdC_ok e3
        cases h
        have hi : cnI (if w = "step" then Ins.step c else .turn c) = 1 ∧ rpI (if w = "step" then Ins.step c else .turn c) = 0 ∧ CtI (if w = "step" then Ins.step c else .turn c) ∧ dpI (if w = "step" then Ins.step c else .turn c) = 0 := by
          split
          · rw [cnI, rpI, CtI, dpI]
            exact ⟨rfl, rfl, b6, rfl⟩
          · rw [cnI, rpI, CtI, dpI]
            exact ⟨rfl, rfl, b6, rfl⟩
        refine ⟨⟨by omega, by omega, by rw [hi.1]; omega, fun _ => by omega, by rw [hi.2.1]; omega, fun z => by omega, hi.2.2.1, by rw [hi.2.2.2]; exact Nat.zero_le _⟩, by omega⟩
    · next hw =>
      have hw' : w = "repeat" := Decidable.not_not.mp hw
      rw [if_pos hw'] at a6
      split at h
      · cases h
      · next c s3 e3 =>
        obtain ⟨b1, b2, b3, b4, b5, b6⟩ := rdC_ok e3
        split at h
        · cases h
        · next u s4 e4 =>
          obtain ⟨c1, c2, c3, c4⟩ := rdB_ok e4
          split at h
          · cases h
          · next b s5 e5 =>
            cases h
            obtain ⟨G, hk⟩ := hin _ _ _ (by omega) (by omega) e5
            refine ⟨⟨by have := G.p; omega, G.q, by rw [cnI, G.n]; omega, fun _ => G.n1 (by omega), by rw [rpI, G.r]; omega, fun z => G.r1 (by have := (a7 hw').2; omega), by rw [CtI]; exact ⟨b5, by omega, G.g⟩, by rw [dpI]; have := G.d; omega⟩, G.n1 (by omega)⟩
theorem rdI_ok {T : List Str} : ∀ {k : Nat} {s s1 : RS} {i : Ins}, s.n ≤ 100 → rdI T k s = .ok i s1 → GoI T k s i s1 ∧ s1.n ≤ 100
  | 0, s, s1, i, hn, h => by
    unfold rdI at h
    exact rdO_ok (fun _ _ _ _ _ z => by cases z) hn h
  | k + 1, s, s1, i, hn, h => by
    unfold rdI at h
    exact rdO_ok (fun _ _ _ hp hn z => ⟨(rdL_ok (fun _ _ _ _ hn z => rdI_ok hn z) hp hn z).1, by omega⟩) hn h
/-! ### what was written is read -/
theorem at_drop {T : List Str} {p : Nat} {t : Str} {r : List Str} (h : T.drop p = t :: r) : T[p]? = some t ∧ T.drop (p + 1) = r := by
  constructor
  · have := congrArg (fun l => l[0]?) h
    simpa using this
  · rw [← List.drop_drop, h]
    rfl
theorem rdC_back {T r : List Str} {m c : Int} {s : RS} (h : T.drop s.p = ctS c :: r) (hc : c.natAbs ≤ 10 ^ 30) (hm : m ≤ c) : rdC T m s = .ok c ⟨s.p + 1, s.n, s.r⟩ := by
  unfold rdC
  rw [(at_drop h).1]
  dsimp only
  rw [ct_back hc]
  dsimp only
  rw [if_neg (by omega)]
theorem rdW_back {T r : List Str} {k : Nat} {w : Str} {s : RS} (h : T.drop s.p = w :: r) (hw : w = "step" ∨ w = "turn" ∨ w = "repeat") (hn : s.n < 100) (hr : w = "repeat" → k ≠ 0 ∧ s.r < 5) :
    rdW T k s = .ok w ⟨s.p + 1, s.n + 1, if w = "repeat" then s.r + 1 else s.r⟩ := by
  unfold rdW
  rw [(at_drop h).1]
  dsimp only
  rw [if_neg (fun z => by
    rcases z with z | z
    · exact z hw
    · omega), if_neg (fun z => by
    have := hr z.1
    rcases z.2 with y | y <;> omega)]
theorem words_apart : ("step" : Str) ≠ "repeat" ∧ ("turn" : Str) ≠ "repeat" ∧ ("turn" : Str) ≠ "step" ∧ ("step" : Str) ≠ "]" ∧ ("turn" : Str) ≠ "]" ∧ ("repeat" : Str) ≠ "]" := by decide +kernel
theorem tkI_head (i : Ins) : ∃ w r, tkI i = w :: r ∧ (w = "step" ∨ w = "turn" ∨ w = "repeat") := by
  cases i with
  | step c => exact ⟨_, _, by unfold tkI; rfl, .inl rfl⟩
  | turn c => exact ⟨_, _, by unfold tkI; rfl, .inr (.inl rfl)⟩
  | rep n b => exact ⟨_, _, by unfold tkI; rfl, .inr (.inr rfl)⟩
/-- an instruction is read back -/
def BackI (T : List Str) (k : Nat) (one : RS → Rd Ins) (i : Ins) : Prop := ∀ (s : RS) (r : List Str), T.drop s.p = tkI i ++ r → s.n + cnI i ≤ 100 → s.r + rpI i ≤ 5 → one s = .ok i ⟨s.p + (tkI i).length, s.n + cnI i, s.r + rpI i⟩
theorem rdL_back {T : List Str} {k : Nat} {one : RS → Rd Ins} : ∀ {b : List Ins}, (∀ i ∈ b, BackI T k one i) → ∀ {f : Nat} {s : RS} {r : List Str}, T.drop s.p = tkP b ++ (("]" : Str) :: r) → s.n + cnP b ≤ 100 → s.r + rpP b ≤ 5 → b.length < f →
    rdL T one f s = .ok b ⟨s.p + (tkP b).length + 1, s.n + cnP b, s.r + rpP b⟩
  | [], _, f, s, r, hT, hn, hr, hf => by
    obtain ⟨f, rfl⟩ : ∃ g, f = g + 1 := ⟨f - 1, by simp at hf; omega⟩
    rw [tkP_nil, List.nil_append] at hT
    unfold rdL
    rw [(at_drop hT).1]
    dsimp only
    rw [if_pos rfl, tkP_nil, cnP_nil', rpP_nil]
    rfl
  | i :: b, hb, f, s, r, hT, hn, hr, hf => by
    obtain ⟨f, rfl⟩ : ∃ g, f = g + 1 := ⟨f - 1, by simp at hf; omega⟩
    rw [tkP_cons, List.append_assoc] at hT
    rw [cnP_cons] at hn
    rw [rpP_cons] at hr
    obtain ⟨w, q, e, hw⟩ := tkI_head i
    have hT2 := hT
    rw [e, List.cons_append] at hT2
    unfold rdL
    rw [(at_drop hT2).1]
    dsimp only
    rw [if_neg (by
      rcases hw with rfl | rfl | rfl
      · exact words_apart.2.2.2.1
      · exact words_apart.2.2.2.2.1
      · exact words_apart.2.2.2.2.2), hb i List.mem_cons_self s _ hT (by omega) (by omega)]
    dsimp only
    have hT3 : T.drop (s.p + (tkI i).length) = tkP b ++ (("]" : Str) :: r) := by
      rw [← List.drop_drop, hT, List.drop_left]
    rw [rdL_back (fun j hj => hb j (List.mem_cons_of_mem _ hj)) (f := f) (s := ⟨s.p + (tkI i).length, s.n + cnI i, s.r + rpI i⟩) hT3 (by show s.n + cnI i + cnP b ≤ 100; omega) (by show s.r + rpI i + rpP b ≤ 5; omega) (by simp at hf; omega)]
    dsimp only
    rw [tkP_cons, cnP_cons, rpP_cons, List.length_append]
    congr 2 <;> omega
theorem rdO_back {T : List Str} {k : Nat} {inner : RS → Rd (List Ins)} {i : Ins} (hg : CtI i) (hd : dpI i ≤ k)
    (hin : ∀ n b, i = .rep n b → ∀ (s : RS) (r : List Str), T.drop s.p = tkP b ++ (("]" : Str) :: r) → s.n + cnP b ≤ 100 → s.r + rpP b ≤ 5 → inner s = .ok b ⟨s.p + (tkP b).length + 1, s.n + cnP b, s.r + rpP b⟩) : BackI T k (rdO T k inner) i := by
  intro s r hT hn hr
  have flat : ∀ (w : Str) (c : Int), (w = "step" ∨ w = "turn") → c.natAbs ≤ 10 ^ 30 → T.drop s.p = w :: ctS c :: r → s.n < 100 → rdO T k inner s = .ok (if w = "step" then .step c else .turn c) ⟨s.p + 2, s.n + 1, s.r⟩ := by
    intro w c hw hc hT hn
    have nr : w ≠ "repeat" := by
      rcases hw with rfl | rfl
      · exact words_apart.1
      · exact words_apart.2.1
    unfold rdO
    rw [rdW_back hT (by rcases hw with h | h; exact .inl h; exact .inr (.inl h)) hn fun z => absurd z nr]
    dsimp only
    rw [if_pos nr, rdC_back (s := ⟨s.p + 1, s.n + 1, if w = "repeat" then s.r + 1 else s.r⟩) (at_drop hT).2 hc (by omega)]
    dsimp only
    rw [if_neg nr]
  cases i with
  | step c =>
    rw [CtI] at hg
    rw [tkI] at hT
    rw [cnI] at hn
    have := flat "step" c (.inl rfl) hg hT (by omega)
    rw [if_pos rfl] at this
    rw [this, tkI, cnI, rpI]
    rfl
  | turn c =>
    rw [CtI] at hg
    rw [tkI] at hT
    rw [cnI] at hn
    have := flat "turn" c (.inr rfl) hg hT (by omega)
    rw [if_neg words_apart.2.2.1] at this
    rw [this, tkI, cnI, rpI]
    rfl
  | rep n b =>
    rw [CtI] at hg
    rw [dpI] at hd
    rw [tkI] at hT
    rw [cnI] at hn
    rw [rpI] at hr
    have h1 : T.drop s.p = ("repeat" : Str) :: (ctS n :: (("[" : Str) :: (tkP b ++ (("]" : Str) :: r)))) := by
      rw [hT]
      simp
    have h2 := (at_drop h1).2
    have h3 := (at_drop h2).2
    have h4 := (at_drop h3).2
    unfold rdO
    rw [rdW_back h1 (.inr (.inr rfl)) (by omega) fun _ => ⟨by omega, by omega⟩]
    dsimp only
    rw [if_neg (fun z => z rfl), if_pos rfl, rdC_back (s := ⟨s.p + 1, s.n + 1, s.r + 1⟩) h2 (by omega) (by omega)]
    dsimp only
    unfold rdB
    rw [(at_drop h3).1]
    dsimp only
    rw [if_pos rfl]
    dsimp only
    rw [hin n b rfl ⟨s.p + 1 + 1 + 1, s.n + 1, s.r + 1⟩ r h4 (by show s.n + 1 + cnP b ≤ 100; omega) (by show s.r + 1 + rpP b ≤ 5; omega)]
    dsimp only
    rw [tkI, cnI, rpI, List.length_append, List.length_append]
    show Rd.ok _ _ = Rd.ok _ ⟨s.p + (3 + ((tkP b).length + 1)), _, _⟩
    congr 2 <;> omega
theorem rdI_back {T : List Str} : ∀ {k : Nat} {i : Ins}, CtI i → dpI i ≤ k → (tkI i).length ≤ T.length → BackI T k (rdI T k) i
  | 0, i, hg, hd, _ => by
    unfold rdI
    exact rdO_back hg hd fun n b e => by
      subst e
      rw [dpI] at hd
      omega
  | k + 1, i, hg, hd, hl => by
    unfold rdI
    refine rdO_back hg hd fun n b e s r hT hn hr => ?_
    subst e
    rw [dpI] at hd
    rw [CtI] at hg
    rw [tkI, List.length_append, List.length_append] at hl
    have len : ∀ {c : List Ins}, c.length ≤ (tkP c).length := by
      intro c
      induction c with
      | nil => exact Nat.zero_le _
      | cons j c ih =>
        have := List.length_pos_iff.mpr (tkI_ne j)
        rw [tkP_cons, List.length_append, List.length_cons]
        omega
    have sub : ∀ {c : List Ins} {j : Ins}, j ∈ c → (tkI j).length ≤ (tkP c).length := by
      intro c j hj
      induction c with
      | nil => exact absurd hj List.not_mem_nil
      | cons x c ih =>
        rw [tkP_cons, List.length_append]
        rcases List.mem_cons.mp hj with rfl | hj
        · omega
        · have := ih hj
          omega
    have hb := len (c := b)
    exact rdL_back (k := k) (fun j hj => rdI_back (CtP_mem hg.2.2 hj) (by have := dpP_mem hj; omega) (by have := sub hj; omega)) hT hn hr (by omega)
theorem rdP_back {T : List Str} : ∀ {b : List Ins}, CtP b → dpP b ≤ 2 → (∀ i ∈ b, (tkI i).length ≤ T.length) → ∀ {f : Nat} {s : RS}, T.drop s.p = tkP b → s.p ≤ T.length → s.n + cnP b ≤ 100 → s.r + rpP b ≤ 5 → b.length < f →
    rdP T f s = .ok b ⟨s.p + (tkP b).length, s.n + cnP b, s.r + rpP b⟩
  | [], _, _, _, f, s, hT, hp, hn, hr, hf => by
    obtain ⟨f, rfl⟩ : ∃ g, f = g + 1 := ⟨f - 1, by simp at hf; omega⟩
    rw [tkP_nil] at hT
    have := List.drop_eq_nil_iff.mp hT
    unfold rdP
    rw [if_pos (by omega), tkP_nil, cnP_nil', rpP_nil]
    rfl
  | i :: b, hg, hd, hl, f, s, hT, hp, hn, hr, hf => by
    obtain ⟨f, rfl⟩ : ∃ g, f = g + 1 := ⟨f - 1, by simp at hf; omega⟩
    rw [tkP_cons] at hT
    rw [cnP_cons] at hn
    rw [rpP_cons] at hr
    rw [CtP_cons] at hg
    rw [dpP_cons] at hd
    unfold rdP
    rw [if_neg (fun z => by
      have := congrArg List.length hT
      rw [List.length_drop, List.length_append] at this
      have := List.length_pos_iff.mpr (tkI_ne i)
      omega), rdI_back hg.1 (by omega) (hl i List.mem_cons_self) s _ hT (by omega) (by omega)]
    dsimp only
    have hlen := congrArg List.length hT
    rw [List.length_drop, List.length_append] at hlen
    have hT3 : T.drop (s.p + (tkI i).length) = tkP b := by
      rw [← List.drop_drop, hT, List.drop_left]
    rw [rdP_back hg.2 (by omega) (fun j hj => hl j (List.mem_cons_of_mem _ hj)) (f := f) (s := ⟨s.p + (tkI i).length, s.n + cnI i, s.r + rpI i⟩) hT3 (by show s.p + (tkI i).length ≤ T.length; omega) (by show s.n + cnI i + cnP b ≤ 100; omega) (by show s.r + rpI i + rpP b ≤ 5; omega) (by simp at hf; omega)]
    dsimp only
    rw [tkP_cons, cnP_cons, rpP_cons, List.length_append]
    congr 2 <;> omega
/-- the text of a program is read back -/
theorem read_back {b : List Ins} (hg : CtP b) (hd : dpP b ≤ 2) (hn : cnP b ≤ 100) (hr : rpP b ≤ 5) : ∃ s, readT (tkP b) = .ok b s := by
  have sub : ∀ {c : List Ins} {j : Ins}, j ∈ c → (tkI j).length ≤ (tkP c).length := by
    intro c j hj
    induction c with
    | nil => exact absurd hj List.not_mem_nil
    | cons x c ih =>
      rw [tkP_cons, List.length_append]
      rcases List.mem_cons.mp hj with rfl | hj
      · omega
      · have := ih hj
        omega
  have len : ∀ {c : List Ins}, c.length ≤ (tkP c).length := by
    intro c
    induction c with
    | nil => exact Nat.zero_le _
    | cons j c ih =>
      have := List.length_pos_iff.mpr (tkI_ne j)
      rw [tkP_cons, List.length_append, List.length_cons]
      omega
  exact ⟨_, rdP_back hg hd (fun i hi => sub hi) (f := (tkP b).length + 1) (s := ⟨0, 0, 0⟩) rfl (Nat.zero_le _) (by show 0 + cnP b ≤ 100; omega) (by show 0 + rpP b ≤ 5; omega) (by have := len (c := b); omega)⟩
/-! ### what reading leaves in the heap: tuples, and lists that were not there before -/
mutual
inductive NwI (K : PySem.W.Frag) (H0 H : Hp) : V → Ins → Prop
  | step {a : Addr} {c : Int} : SqT K H a [.str "step", .int c] → NwI K H0 H (.ref a) (.step c)
  | turn {a : Addr} {c : Int} : SqT K H a [.str "turn", .int c] → NwI K H0 H (.ref a) (.turn c)
  | rep {a L : Addr} {n : Int} {xs : List V} {b : List Ins} : SqT K H a [.str "repeat", .int n, .ref L] → H0 L = none → H L = some (.lst xs) → NwP K H0 H xs b → NwI K H0 H (.ref a) (.rep n b)
inductive NwP (K : PySem.W.Frag) (H0 H : Hp) : List V → List Ins → Prop
  | nil : NwP K H0 H [] []
  | cons {x : V} {xs : List V} {i : Ins} {b : List Ins} : NwI K H0 H x i → NwP K H0 H xs b → NwP K H0 H (x :: xs) (i :: b)
end
section
variable {K : PySem.W.Frag} {H0 H H' : Hp}
mutual
theorem NwI.stay (ht : ∀ a us, SqT K H a us → SqT K H' a us) (hl : ∀ L xs, H0 L = none → H L = some (.lst xs) → H' L = some (.lst xs)) : ∀ {x : V} {i : Ins}, NwI K H0 H x i → NwI K H0 H' x i
  | _, _, .step h => .step (ht _ _ h)
  | _, _, .turn h => .turn (ht _ _ h)
  | _, _, .rep h n e q => .rep (ht _ _ h) n (hl _ _ n e) (NwP.stay ht hl q)
theorem NwP.stay (ht : ∀ a us, SqT K H a us → SqT K H' a us) (hl : ∀ L xs, H0 L = none → H L = some (.lst xs) → H' L = some (.lst xs)) : ∀ {xs : List V} {b : List Ins}, NwP K H0 H xs b → NwP K H0 H' xs b
  | _, _, .nil => .nil
  | _, _, .cons h t => .cons (NwI.stay ht hl h) (NwP.stay ht hl t)
end
theorem NwP.same (e : Same H H') {xs : List V} {b : List Ins} (h : NwP K H0 H xs b) : NwP K H0 H' xs b := h.stay (fun _ _ g => same_t e g) fun _ _ _ g => e _ _ g
theorem NwI.same (e : Same H H') {x : V} {i : Ins} (h : NwI K H0 H x i) : NwI K H0 H' x i := h.stay (fun _ _ g => same_t e g) fun _ _ _ g => e _ _ g
mutual
theorem NwI.iv : ∀ {x : V} {i : Ins}, NwI K H0 H x i → IV K H x i
  | _, _, .step h => iv_step h
  | _, _, .turn h => iv_turn h
  | _, _, .rep h _ e q => iv_rep h (pv_list (SqL.of e) (NwP.ivs q))
theorem NwP.ivs : ∀ {xs : List V} {b : List Ins}, NwP K H0 H xs b → IVs K H xs b
  | _, _, .nil => .nil
  | _, _, .cons h t => .cons (NwI.iv h) (NwP.ivs t)
end
mutual
theorem NwI.less {G : Hp} (hg : ∀ a, H0 a = none → G a = none) : ∀ {x : V} {i : Ins}, NwI K H0 H x i → NwI K G H x i
  | _, _, .step h => .step h
  | _, _, .turn h => .turn h
  | _, _, .rep h n e q => .rep h (hg _ n) e (NwP.less hg q)
theorem NwP.less {G : Hp} (hg : ∀ a, H0 a = none → G a = none) : ∀ {xs : List V} {b : List Ins}, NwP K H0 H xs b → NwP K G H xs b
  | _, _, .nil => .nil
  | _, _, .cons h t => .cons (NwI.less hg h) (NwP.less hg t)
end
theorem NwP.app : ∀ {xs ys : List V} {b c : List Ins}, NwP K H0 H xs b → NwP K H0 H ys c → NwP K H0 H (xs ++ ys) (b ++ c)
  | _, _, _, _, .nil, h => h
  | _, _, _, _, .cons r q, h => .cons r (NwP.app q h)
theorem NwP.len {xs : List V} {b : List Ins} (h : NwP K H0 H xs b) : xs.length = b.length := h.ivs.len
end
end DR
namespace DR
open PySem PySem.Spec PyProof.Rows L2
/-! ### max of a dict whose keys are ints -/
/-! ### an entry of a dict of ints taken out, or written -/
def drp (m : Pol) (e : Int) : Pol := m.filter fun t => decide (t.1 ≠ e)
theorem drp_cf (e : Int) : ∀ (m : Pol) (x : Int), cf (drp m e) x = if x = e then 0 else cf m x
  | [], x => by
    show (0 : Int) = _
    split <;> rfl
  | t :: r, x => by
    have ih := drp_cf e r x
    by_cases h : t.1 = e
    · have e1 : drp (t :: r) e = drp r e := List.filter_cons_of_neg (by simp [h])
      rw [e1, ih, cf_cons]
      by_cases q : x = e
      · rw [if_pos q, if_pos q]
      · rw [if_neg q, if_neg q, if_neg (fun z => q (by rw [← z, h])), Int.zero_add]
    · have e1 : drp (t :: r) e = t :: drp r e := List.filter_cons_of_pos (by simp [h])
      rw [e1, cf_cons, ih, cf_cons]
      by_cases q : x = e
      · rw [if_pos q, if_pos q, if_neg (fun z => h (by rw [z, q])), Int.zero_add]
      · rw [if_neg q, if_neg q]
theorem drp_keys {m : Pol} {e x : Int} (h : x ∈ (drp m e).map (·.1)) : x ≠ e ∧ x ∈ m.map (·.1) := by
  obtain ⟨t, ht, rfl⟩ := List.mem_map.mp h
  obtain ⟨h1, h2⟩ := List.mem_filter.mp ht
  exact ⟨of_decide_eq_true h2, List.mem_map_of_mem h1⟩
theorem drp_nodup {m : Pol} (e : Int) (h : (m.map (·.1)).Nodup) : ((drp m e).map (·.1)).Nodup := h.sublist (List.filter_sublist.map _)
def stp (m : Pol) (e v : Int) : Pol := if v = 0 then drp m e else put m e v
theorem stp_cf {m : Pol} (e v : Int) (h : (m.map (·.1)).Nodup) (x : Int) : cf (stp m e v) x = if x = e then v else cf m x := by
  unfold stp
  by_cases z : v = 0
  · rw [if_pos z, drp_cf, z]
  · rw [if_neg z, put_cf _ _ _ _ h]
theorem stp_nodup {m : Pol} (e v : Int) (h : (m.map (·.1)).Nodup) : ((stp m e v).map (·.1)).Nodup := by
  unfold stp
  split
  · exact drp_nodup e h
  · exact put_nodup m e v h
theorem stp_keys {m : Pol} {e v x : Int} (h : x ∈ (stp m e v).map (·.1)) : (x = e ∧ v ≠ 0) ∨ (x ≠ e ∧ x ∈ m.map (·.1)) := by
  unfold stp at h
  by_cases z : v = 0
  · rw [if_pos z] at h
    exact .inr (drp_keys h)
  · rw [if_neg z] at h
    by_cases q : x = e
    · exact .inl ⟨q, z⟩
    · rcases put_keys m e v x h with y | y
      · exact absurd y q
      · exact .inr ⟨q, y⟩
/-- a dict of residues that are not 0 -/
structure Rsd (p : Int) (m : Pol) : Prop where
  nd : (m.map (·.1)).Nodup
  vl : ∀ y ∈ m.map (·.1), 0 < cf m y ∧ cf m y < p
theorem Rsd.stp {p : Int} {m : Pol} (h : Rsd p m) (e : Int) {v : Int} (h0 : 0 ≤ v) (h9 : v < p) : Rsd p (stp m e v) := ⟨stp_nodup e v h.nd, fun y hy => by
  rw [stp_cf e v h.nd]
  rcases stp_keys hy with ⟨a, b⟩ | ⟨a, b⟩
  · rw [if_pos a]
    omega
  · rw [if_neg a]
    exact h.vl y b⟩
theorem Rsd.bd {p : Int} {m : Pol} (h : Rsd p m) (hp : 0 < p) (e : Int) : 0 ≤ cf m e ∧ cf m e < p := by
  by_cases z : e ∈ m.map (·.1)
  · have := h.vl e z
    omega
  · rw [cf_out z]
    omega
/-! ### inverses -/
end DR
namespace DR
open PySem PySem.Spec PyProof.Rows L2
/-! ### a dict of the terms of a polynomial that pass a test -/
/-! ### name = {k: v for ..} -/
/-! ### long division -/
theorem filter_cf (b : Int → Bool) : ∀ (f : Pol) (e : Int), cf (f.filter fun t => b t.1) e = if b e = true then cf f e else 0
  | [], e => by
    show (0 : Int) = _
    split <;> rfl
  | t :: r, e => by
    have ih := filter_cf b r e
    by_cases h : b t.1 = true
    · rw [List.filter_cons_of_pos (by exact h), cf_cons, cf_cons, ih]
      by_cases q : t.1 = e
      · rw [if_pos q]
        rw [q] at h
        rw [if_pos h, if_pos h]
      · rw [if_neg q]
        split <;> omega
    · rw [List.filter_cons_of_neg (by exact h), ih, cf_cons]
      by_cases q : b e = true
      · rw [if_pos q, if_pos q, if_neg (fun z => h (by rw [z]; exact q)), Int.zero_add]
      · rw [if_neg q, if_neg q]
/-- the two dicts and the quotient while dividing -/
structure DvI (p deg : Int) (f g A R Q : Pol) (m : Nat) : Prop where
  ra : Rsd p A
  rr : Rsd p R
  nq : (Q.map (·.1)).Nodup
  ka : ∀ y ∈ A.map (·.1), deg ≤ y ∧ y < deg + m
  kr : ∀ y ∈ R.map (·.1), y < deg
  kq : ∀ y ∈ Q.map (·.1), (m : Int) ≤ y
  eq : ∀ e, (cf A e + cf R e + cf (prods Q g) e - cf f e) % p = 0
/-- within a turn -/
structure DvJ (p deg d c : Int) (A0 R0 A R : Pol) (h : Pol) : Prop where
  ra : Rsd p A
  rr : Rsd p R
  ka : ∀ y ∈ A.map (·.1), deg ≤ y ∧ y ≤ deg + d
  kr : ∀ y ∈ R.map (·.1), y < deg
  eq : ∀ e, (cf A e + cf R e - (cf A0 e + cf R0 e) + cf (times (d, c) h) e) % p = 0
theorem Nf.rsd {p : Int} {f : Pol} {F : Int → Int} (h : Nf p f F) (b : Int → Bool) : Rsd p (f.filter fun t => b t.1) := by
  have hs : (f.filter fun t => b t.1).Sublist f := List.filter_sublist
  have ha : (f.filter fun t => b t.1).Pairwise fun x y => x.1 < y.1 := h.asc.sublist hs
  refine ⟨?_, fun y hy => ?_⟩
  · rw [List.Nodup, List.pairwise_map]
    exact ha.imp fun z => by omega
  · obtain ⟨t, ht, rfl⟩ := List.mem_map.mp hy
    rw [cf_mem ha t ht]
    have := h.rng t (hs.mem ht)
    omega
theorem DvI.start {p deg : Int} {f g : Pol} {F : Int → Int} {N : Nat} (h : Nf p f F) (hN : ∀ t ∈ f, t.1 < deg + N) : DvI p deg f g (f.filter fun t => decide (t.1 ≥ deg)) (f.filter fun t => decide (t.1 < deg)) [] N := by
  refine ⟨h.rsd fun x => decide (x ≥ deg), h.rsd fun x => decide (x < deg), List.nodup_nil, fun y hy => ?_, fun y hy => ?_, fun y hy => absurd hy List.not_mem_nil, fun e => ?_⟩
  · obtain ⟨t, ht, rfl⟩ := List.mem_map.mp hy
    obtain ⟨h1, h2⟩ := List.mem_filter.mp ht
    exact ⟨of_decide_eq_true h2, hN t h1⟩
  · obtain ⟨t, ht, rfl⟩ := List.mem_map.mp hy
    exact of_decide_eq_true (List.mem_filter.mp ht).2
  · rw [filter_cf (fun x => decide (x ≥ deg)), filter_cf (fun x => decide (x < deg))]
    have e0 : cf (prods [] g) e = 0 := rfl
    rw [e0]
    by_cases z : e ≥ deg
    · rw [if_pos (decide_eq_true z), if_neg (by rw [decide_eq_false (by omega)]; decide)]
      rw [show cf f e + 0 + 0 - cf f e = 0 by omega]
      exact Int.zero_emod _
    · rw [if_neg (by rw [decide_eq_false z]; decide), if_pos (decide_eq_true (by omega))]
      rw [show 0 + cf f e + 0 - cf f e = 0 by omega]
      exact Int.zero_emod _
theorem DvJ.start {p deg d c : Int} {f g A R Q : Pol} {m : Nat} (h : DvI p deg f g A R Q m) (htop : ∀ y ∈ A.map (·.1), y ≤ deg + d) : DvJ p deg d c A R A R [] := by
  refine ⟨h.ra, h.rr, fun y hy => ⟨(h.ka y hy).1, htop y hy⟩, h.kr, fun e => ?_⟩
  have e0 : cf (times (d, c) []) e = 0 := rfl
  rw [e0, show cf A e + cf R e - (cf A e + cf R e) + 0 = 0 by omega]
  exact Int.zero_emod _
theorem times_snoc (t u : Int × Int) (h : Pol) : times t (h ++ [u]) = times t h ++ [(t.1 + u.1, t.2 * u.2)] := by
  unfold times
  rw [List.map_append]
  rfl
theorem z_add {p a b : Int} (h : a % p = 0) (k : b % p = 0) : (a + b) % p = 0 := Int.emod_eq_zero_of_dvd (Int.dvd_add (Int.dvd_of_emod_eq_zero h) (Int.dvd_of_emod_eq_zero k))
theorem z_sub {p a b : Int} (h : a % p = 0) (k : b % p = 0) : (a - b) % p = 0 := Int.emod_eq_zero_of_dvd (Int.dvd_sub (Int.dvd_of_emod_eq_zero h) (Int.dvd_of_emod_eq_zero k))
theorem left_eq {p a c : Int} : ((a - c) % p - a + c) % p = 0 := by
  have h1 := Int.emod_add_mul_ediv (a - c) p
  rw [show (a - c) % p - a + c = p * (-((a - c) / p)) by rw [Int.mul_neg]; omega]
  exact Int.mul_emod_right _ _
theorem DvJ.low {p deg d c : Int} {A0 R0 A R h : Pol} {u : Int × Int} (j : DvJ p deg d c A0 R0 A R h) (hp : 0 < p) (h1 : u.1 + d < deg) :
    DvJ p deg d c A0 R0 A (stp R (u.1 + d) ((cf R (u.1 + d) - c * u.2) % p)) (h ++ [u]) := by
  refine ⟨j.ra, j.rr.stp _ (Int.emod_nonneg _ (by omega)) (Int.emod_lt_of_pos _ hp), j.ka, fun y hy => ?_, fun e => ?_⟩
  · rcases stp_keys hy with ⟨z, _⟩ | ⟨_, z⟩
    · omega
    · exact j.kr y z
  · rw [stp_cf _ _ j.rr.nd, times_snoc, cf_append, cf_cons, cf_nil]
    have he := j.eq e
    by_cases z : e = u.1 + d
    · rw [if_pos z, if_pos (by show d + u.1 = e; omega), ← z]
      have := z_add he (left_eq (p := p) (a := cf R e) (c := c * u.2))
      refine Eq.trans (congrArg (· % p) ?_) this
      show _ + (cf (times (d, c) h) e + (c * u.2 + 0)) = _
      omega
    · rw [if_neg z, if_neg (by show ¬ (d + u.1 = e); omega)]
      refine Eq.trans (congrArg (· % p) ?_) he
      omega
theorem TPol.same {K : PySem.W.Frag} {H H' : Hp} {v : V} {f : Pol} (s : Same H H') (h : TPol K H v f) : TPol K H' v f := by
  obtain ⟨a, xs, rfl, h1, h2⟩ := h
  exact ⟨a, xs, rfl, same_t s h1, Prs.tp (Same.tp s) h2⟩
end DR
namespace DR
open PySem PySem.Spec PyProof.Rows L2
/-! ### products that are others -/
theorem eq_of_sub {a b p : Int} (h : (a - b) % p = 0) : a % p = b % p := Int.emod_eq_emod_iff_emod_sub_eq_zero.mpr h
theorem sub_of_eq {a b p : Int} (h : a % p = b % p) : (a - b) % p = 0 := Int.emod_eq_emod_iff_emod_sub_eq_zero.mp h
theorem prime_cut {p : Int} (hp : p ∈ primes) {a x : Int} (h0 : 0 < a) (h9 : a < p) (h : a * x % p = 0) : x % p = 0 := by
  have hr := prime_rng p hp
  by_cases z : x % p = 0
  · exact z
  · have m0 := Int.emod_nonneg x (show p ≠ 0 by omega)
    have m1 := Int.emod_lt_of_pos x (show 0 < p by omega)
    refine absurd ?_ (prime_nz hp h0 h9 (show 0 < x % p by omega) m1)
    rw [Int.mul_comm, mul_emod_l, Int.mul_comm]
    exact h
theorem conv_gone {p : Int} {D : Int → Int} {E : Int} : ∀ (g : Pol), (∀ t ∈ g, D (E - t.1) % p = 0) → conv g D E % p = 0
  | [], _ => Int.zero_emod _
  | t :: r, h => by
    show (t.2 * D (E - t.1) + conv r D E) % p = 0
    refine z_add ?_ (conv_gone r fun u hu => h u (List.mem_cons_of_mem _ hu))
    rw [Int.mul_emod, h t List.mem_cons_self, Int.mul_zero, Int.zero_emod]
/-- what has no top has nothing -/
theorem top_zero {p : Int} (hp : p ∈ primes) {g0 : Pol} {deg lead : Int} (ng : Nf p (g0 ++ [(deg, lead)]) (cf (g0 ++ [(deg, lead)]))) {D : Int → Int} {B lo : Int} (hB : ∀ e, B ≤ e → D e % p = 0) (hz : ∀ e, lo ≤ e → conv (g0 ++ [(deg, lead)]) D (e + deg) % p = 0) : ∀ e, lo ≤ e → D e % p = 0 := by
  have glow : ∀ t ∈ g0, t.1 < deg := fun t ht => (List.pairwise_append.mp ng.asc).2.2 t ht (deg, lead) (by simp)
  have gl := ng.rng (deg, lead) (by simp)
  have key : ∀ n : Nat, ∀ e, lo ≤ e → B - n ≤ e → D e % p = 0 := by
    intro n
    induction n with
    | zero => exact fun e _ h => hB e (by omega)
    | succ n ih =>
      intro e h1 h2
      by_cases z : B - n ≤ e
      · exact ih e h1 z
      · have hc := hz e h1
        rw [conv_append] at hc
        have h0 := conv_gone (p := p) (D := D) (E := e + deg) g0 fun t ht => by
          have := glow t ht
          exact ih _ (by omega) (by omega)
        have hc2 := z_sub hc h0
        rw [show conv g0 D (e + deg) + conv [(deg, lead)] D (e + deg) - conv g0 D (e + deg) = conv [(deg, lead)] D (e + deg) by omega] at hc2
        have e3 : conv [(deg, lead)] D (e + deg) = lead * D e := by
          show lead * D (e + deg - deg) + 0 = _
          rw [show e + deg - deg = e by omega, Int.add_zero]
        rw [e3] at hc2
        exact prime_cut hp gl.1 gl.2 hc2
  intro e he
  exact key (B - e).toNat e he (by omega)
theorem pol_top (f : Pol) : ∃ B : Int, ∀ e, B ≤ e → cf f e = 0 := by
  induction f with
  | nil => exact ⟨0, fun _ _ => rfl⟩
  | cons t r ih =>
    obtain ⟨B, hB⟩ := ih
    refine ⟨max B (t.1 + 1), fun e he => ?_⟩
    rw [cf_cons, if_neg (by omega), hB e (by omega)]
    rfl
theorem ne_snoc {g : Pol} (h : g ≠ []) : ∃ g0 deg lead, g = g0 ++ [(deg, lead)] := ⟨g.dropLast, (g.getLast h).1, (g.getLast h).2, (List.dropLast_concat_getLast h).symm⟩
theorem conv_sub (G G' : Int → Int) (f : Pol) (e : Int) : conv f (fun x => G x - G' x) e = conv f G e - conv f G' e := by
  have h := conv_add G (fun x => -1 * G' x) f e
  rw [conv_smul] at h
  rw [show conv f G e - conv f G' e = conv f G e + -1 * conv f G' e by omega, ← h]
  exact conv_congr (fun x => by omega) f e
/-- cancelling -/
theorem conv_cancel {p : Int} (hp : p ∈ primes) {g q f : Pol} (ng : Nf p g (cf g)) (hg : g ≠ []) (h : ∀ e, conv q (cf g) e % p = conv f (cf g) e % p) (e : Int) : cf q e % p = cf f e % p := by
  obtain ⟨g0, deg, lead, rfl⟩ := ne_snoc hg
  obtain ⟨B1, h1⟩ := pol_top q
  obtain ⟨B2, h2⟩ := pol_top f
  refine eq_of_sub (top_zero hp ng (D := fun x => cf q x - cf f x) (B := max B1 B2) (lo := e) (fun x hx => ?_) (fun x _ => ?_) e (Int.le_refl _))
  · show (cf q x - cf f x) % p = 0
    rw [h1 x (by omega), h2 x (by omega)]
    exact Int.zero_emod _
  · rw [conv_sub, conv_comm q, conv_comm f]
    exact sub_of_eq (h _)
/-- g divides f -/
def Dv (p : Int) (g f : Pol) : Prop := ∃ h, Nf p h (cf h) ∧ ∀ e, conv h (cf g) e % p = cf f e % p
theorem conv_mv (n : Int) (q g : Pol) (e : Int) : conv q (cf (moved n g)) e = conv q (cf g) (e - n) := by
  rw [conv_comm, conv_moved, conv_comm]
theorem Nf.mv {p : Int} {g : Pol} (h : Nf p g (cf g)) (n : Int) : Nf p (DR.moved n g) (cf (DR.moved n g)) := (h.moved n).to fun e => by rw [cf_moved]
theorem Dv.mv {p : Int} {g f : Pol} (n m : Int) (h : Dv p g f) : Dv p (moved n g) (moved m f) := by
  obtain ⟨q, nq, hq⟩ := h
  refine ⟨moved (m - n) q, nq.mv _, fun e => ?_⟩
  rw [conv_moved, conv_mv, cf_moved, hq, show e - (m - n) - n = e - m by omega]
end DR
namespace DR
open PySem PySem.Spec PyProof.Rows L2
theorem pol_bot (f : Pol) : ∃ B : Int, ∀ e, e ≤ B → cf f e = 0 := by
  induction f with
  | nil => exact ⟨0, fun _ _ => rfl⟩
  | cons t r ih =>
    obtain ⟨B, hB⟩ := ih
    refine ⟨min B (t.1 - 1), fun e he => ?_⟩
    rw [cf_cons, if_neg (by omega), hB e (by omega)]
    rfl
/-- every sum has its normal form -/
theorem nf_ex {p : Int} (hp : 0 < p) (m : Pol) : ∃ g, Nf p g (cf m) := by
  obtain ⟨B, hB⟩ := pol_top m
  obtain ⟨L, hL⟩ := pol_bot m
  have asc : ((List.range (B - L).toNat).map fun i : Nat => L + (i : Int)).Pairwise (· < ·) := by
    rw [List.pairwise_map]
    exact List.pairwise_lt_range.imp fun h => by omega
  refine ⟨_, kept_nf hp (ys := (List.range (B - L).toNat).map fun i : Nat => L + (i : Int)) (asc.imp fun h => by omega) (asc.imp fun h => by omega) fun e he => ?_⟩
  by_cases h1 : e ≤ L
  · rw [hL e h1]; exact Int.zero_emod _
  · by_cases h2 : B ≤ e
    · rw [hB e h2]; exact Int.zero_emod _
    · refine absurd (List.mem_map.mpr ⟨(e - L).toNat, List.mem_range.mpr (by omega), ?_⟩) he
      show L + ((e - L).toNat : Int) = e
      omega
theorem gap_conv {p : Int} {n : Int} {h g : Pol} (ng : Nf p g (fun e => cf [(0, 1)] e - cf [(n, 1)] e)) (e : Int) : conv h (cf g) e % p = (cf h e - cf h (e - n)) % p := by
  rw [conv_mod (G' := fun x => cf [(0, 1)] x - cf [(n, 1)] x) (fun x => by rw [ng.cof, Int.emod_emod]) h e, conv_sub, conv_comm [(0, 1)], conv_comm [(n, 1)]]
  show (1 * cf h (e - 0) + 0 - (1 * cf h (e - n) + 0)) % p = _
  rw [Int.sub_zero, Int.one_mul, Int.one_mul, Int.add_zero, Int.add_zero]
theorem gap_ne {p n : Int} {g : Pol} (hp : 2 ≤ p) (hn : n ≠ 0) (ng : Nf p g (fun e => cf [(0, 1)] e - cf [(n, 1)] e)) : g ≠ [] := fun z => by
  have h := ng.cof 0
  have e1 : cf [(0, 1)] (0 : Int) = 1 := rfl
  have e2 : cf [(n, 1)] (0 : Int) = 0 := cf_none _ _ fun t ht => by rw [List.mem_singleton.mp ht]; exact hn
  rw [z, e1, e2] at h
  rw [show (1 : Int) - 0 = 1 from rfl, Int.emod_eq_of_lt (by decide) (by omega)] at h
  cases h
/-! ### a word of one's own where a statement, a value or a test ends -/
section
variable {X : Cx}
def tCut (t : TS) : TS := fun D σ H => ∃ M : L2.St → Hp → Prop, t { D with nx := M } σ H ∧ ∀ σ' H', M σ' H' → D.nx σ' H'
theorem ps_cut {st : Stmt} {t : TS} (h : PS X st t) : PS X st (tCut t) := by
  refine ⟨fun pins s σ H D I q => ?_⟩
  obtain ⟨M, h1, h2⟩ := q
  refine thn (h.run pins s σ H _ I h1) fun f s' r => ?_
  cases f with
  | next =>
    obtain ⟨σ', H', I', m⟩ := r
    exact ⟨σ', H', I', h2 σ' H' m⟩
  | brk => exact r
  | cont => exact r
  | ret u => exact r
def tCutE (t : TE) : TE := fun σ H Q => ∃ M : VK, t σ H M ∧ ∀ v H', M v H' → Q v H'
theorem pe_cut {e : Expr} {t : TE} (h : PE X e t) : PE X e (tCutE t) := by
  refine ⟨fun pins s σ H Q I q => ?_⟩
  obtain ⟨M, h1, h2⟩ := q
  exact thn (h.run pins s σ H _ I h1) fun u s' ⟨v, H', I', rv, m⟩ => ⟨v, H', I', rv, h2 v H' m⟩
end
end DR
namespace L2
open PySem PySem.Spec PyProof.Rows
end L2
namespace DR
open PySem PySem.Spec PyProof.Rows L2
/-! ### a def that may raise, by its name -/
structure CalE (P : Program) (w : World) (K : PySem.W.Frag) (mg : Str → Option Value) (base : Heap) (k : Nat) (x : Str) (sp : Sp) : Prop where
  ex : ∃ (f : Addr) (fd : FuncData) (ps : List Str), FnOk P w K mg base (L2.CX P w) k f fd ps sp ∧ mg x = some (.ref f) ∧ PySem.W.keepIn K (.ref f) = true ∧ Binds K fd ps []
theorem cal_ofE {P : Program} {w : World} {K : PySem.W.Frag} {mg : Str → Option Value} {base : Heap} {k : Nat} {x : Str} {st : Stmt} {ps : List Str} {sp : Sp} (D : Df K mg x st)
    (b : ∀ (kV doc pm : Value) (an : Option Addr) (cdv ct : Value) (us : List Value), us.length = ps.length → bindArgs (PySem.W.fnOf x x (defArgs st) (defBody st) (defScope st) .none kV doc pm an cdv ct) ⟨us, []⟩ = pure (ps.zip us))
    (ok : ∀ f fd, Fun K x x st f fd → FnOk P w K mg base (L2.CX P w) k f fd ps sp) : CalE P w K mg base k x sp := by
  obtain ⟨f, fd, F, hm, kp⟩ := D.ex
  exact ⟨f, fd, ps, ok f fd F, hm, kp, F.binds b⟩
/-- its call, where nothing is raised -/
theorem pe_cE0 {X : Cx} {k j : Nat} {x : Str} {sp : Sp} {p pos : Pos} {e : Expr} {es : List Expr} {t : TA} (c : CalE X.prog X.w X.K X.mg X.base k x sp) (hr : Room j X.A) (hk : k ≤ j) (hg : Gl X x) (ha : PA X (e :: es) t)
    (h1 : (x == ("__debug__" : Str)) = false := by decide) (h2 : starEach (e :: es) X.env = (false, eval e X.env) :: starEach es X.env := by rfl) (h3 : (backTo pos (starEach es X.env)).any (·.1) = false := by rfl) :
    PE X (.Call (.Name x p) (e :: es) [] pos) (tCall sp [] E0 t) := by
  obtain ⟨f, fd, ps, F, hm, kp, b⟩ := c.ex
  exact pe_call F (hr.mono hk) hg hm kp b .nil passL ha h1 h2 h3
end DR
namespace DR
open PySem PySem.Spec PyProof.Rows L2
/-- u is made of f and g -/
def In (p : Int) (f g u : Pol) : Prop := ∃ a b : Pol, ∀ e, (conv a (cf f) e + conv b (cf g) e) % p = cf u e % p
section
variable {p : Int} {f g u v w : Pol}
theorem conv_one (F : Int → Int) (n e : Int) : conv [(n, 1)] F e = F (e - n) := by
  show 1 * F (e - n) + 0 = _
  rw [Int.one_mul, Int.add_zero]
theorem conv_nil (F : Int → Int) (e : Int) : conv [] F e = 0 := rfl
theorem conv_scl (k : Int) (G : Int → Int) : ∀ (f : Pol) (e : Int), conv (f.map fun t => (t.1, t.2 * k)) G e = conv f G e * k
  | [], e => by show (0 : Int) = 0 * k; rw [Int.zero_mul]
  | t :: r, e => by
    show t.2 * k * G (e - t.1) + conv _ G e = (t.2 * G (e - t.1) + conv r G e) * k
    rw [conv_scl k G r e, Int.add_mul, Int.mul_right_comm]
theorem In.to (h : In p f g u) (k : ∀ e, cf u e % p = cf v e % p) : In p f g v := by
  obtain ⟨a, b, h⟩ := h
  exact ⟨a, b, fun e => (h e).trans (k e)⟩
theorem In.l : In p f g f := ⟨[(0, 1)], [], fun e => by rw [conv_one, conv_nil, Int.add_zero, Int.sub_zero]⟩
theorem In.r : In p f g g := ⟨[], [(0, 1)], fun e => by rw [conv_one, conv_nil, Int.zero_add, Int.sub_zero]⟩
theorem In.z : In p f g [] := ⟨[], [], fun e => rfl⟩
theorem conv_two (a a1 b1 : Pol) (h : ∀ e, (conv a1 (cf f) e + conv b1 (cf g) e) % p = cf u e % p) (e : Int) : conv a (cf u) e % p = (conv (prods a a1) (cf f) e + conv (prods a b1) (cf g) e) % p := by
  rw [← conv_mod h a e, conv_add, conv_assoc, conv_assoc]
theorem In.trans (h1 : In p f g u) (h2 : In p f g v) (h3 : In p u v w) : In p f g w := by
  obtain ⟨a1, b1, h1⟩ := h1
  obtain ⟨a2, b2, h2⟩ := h2
  obtain ⟨a, b, h3⟩ := h3
  refine ⟨prods a a1 ++ prods b a2, prods a b1 ++ prods b b2, fun e => ?_⟩
  rw [← h3 e, Int.add_emod (conv a (cf u) e), conv_two a a1 b1 h1 e, conv_two b a2 b2 h2 e, ← Int.add_emod, conv_append, conv_append]
  congr 1
  omega
theorem In.mul (h : In p f g u) (c : Pol) {r : Pol} (hr : ∀ e, cf r e % p = conv c (cf u) e % p) : In p f g r := by
  obtain ⟨a1, b1, h⟩ := h
  exact ⟨prods c a1, prods c b1, fun e => by rw [hr, conv_two c a1 b1 h e]⟩
theorem In.add (h : In p f g u) (h2 : In p f g v) {r : Pol} (hr : ∀ e, cf r e % p = (cf u e + cf v e) % p) : In p f g r := by
  obtain ⟨a1, b1, h⟩ := h
  obtain ⟨a2, b2, h2⟩ := h2
  refine ⟨a1 ++ a2, b1 ++ b2, fun e => ?_⟩
  rw [hr, Int.add_emod (cf u e), ← h, ← h2, ← Int.add_emod, conv_append, conv_append]
  congr 1
  omega
theorem In.sub (h : In p f g u) (h2 : In p f g v) {r : Pol} (hr : ∀ e, cf r e % p = (cf u e - cf v e) % p) : In p f g r := by
  obtain ⟨a1, b1, h⟩ := h
  obtain ⟨a2, b2, h2⟩ := h2
  refine ⟨a1 ++ a2.map fun t => (t.1, t.2 * -1), b1 ++ b2.map fun t => (t.1, t.2 * -1), fun e => ?_⟩
  rw [hr, Int.sub_emod (cf u e), ← h, ← h2, ← Int.sub_emod, conv_append, conv_append, conv_scl, conv_scl]
  congr 1
  omega
theorem In.mv (h : In p f g u) (n : Int) : In p f g (moved n u) := h.mul [(n, 1)] fun e => by rw [conv_one, cf_moved]
theorem In.dv (hp : 0 < p) (h : In p f [] u) : Dv p f u := by
  obtain ⟨a, b, h⟩ := h
  obtain ⟨a', na⟩ := nf_ex hp a
  refine ⟨a', na.self, fun e => ?_⟩
  rw [← h e, conv_fst (f' := a) (fun x => by rw [na.cof, Int.emod_emod]) f e]
  have : conv b (cf []) e = 0 := (conv_congr (G' := fun _ => 0) (fun _ => rfl) b e).trans (conv_zero b e)
  rw [this, Int.add_zero]
end
/-- zero, or from exponent 0 and with last coefficient 1 -/
structure Gd (p : Int) (d : Pol) : Prop where
  nf : Nf p d (cf d)
  nz : d = [] ∨ ((∃ l d1, d = (0, l) :: d1) ∧ ∃ d0 deg, d = d0 ++ [(deg, 1)])
theorem nf_zero {p : Int} {d : Pol} {F : Int → Int} (h : Nf p d F) (z : ∀ e, F e % p = 0) : d = [] := h.uniq (F' := fun _ => 0) (g' := []) ⟨List.Pairwise.nil, fun t ht => absurd ht List.not_mem_nil, fun e => (Int.zero_emod _).symm⟩ fun e => by rw [z]; exact (Int.zero_emod _).symm
theorem asc_last {f0 : Pol} {t : Int × Int} (h : (f0 ++ [t]).Pairwise fun x y => x.1 < y.1) : ∀ s ∈ f0 ++ [t], s.1 ≤ t.1 := fun s hs => by
  rcases List.mem_append.mp hs with h1 | h1
  · exact Int.le_of_lt ((List.pairwise_append.mp h).2.2 s h1 t (by simp))
  · rw [List.mem_singleton.mp h1]; exact Int.le_refl _
/-- the greatest exponents' term of a product -/
theorem conv_great {p : Int} {r s : Pol} {t u : Int × Int} (h : (r ++ [t]).Pairwise fun x y => x.1 < y.1) (h' : (s ++ [u]).Pairwise fun x y => x.1 < y.1) : conv (r ++ [t]) (cf (s ++ [u])) (t.1 + u.1) % p = t.2 * u.2 % p := by
  rw [conv_append]
  have h0 := conv_gone (p := p) (D := cf (s ++ [u])) (E := t.1 + u.1) r fun x hx => by
    have l1 := (List.pairwise_append.mp h).2.2 x hx t (by simp)
    rw [cf_none _ _ fun y hy => by have := asc_last h' y hy; omega]
    exact Int.zero_emod _
  rw [Int.add_emod, h0, Int.zero_add, Int.emod_emod]
  show (t.2 * cf (s ++ [u]) (t.1 + u.1 - t.1) + 0) % p = _
  rw [show t.1 + u.1 - t.1 = u.1 by omega, Int.add_zero, cf_mem h' u (by simp)]
theorem dv_ends {p : Int} (hp : p ∈ primes) {x d d' : Pol} (nx : Nf p x (cf x)) (nd : Nf p d (cf d)) (nd' : Nf p d' (cf d')) (hd : d ≠ []) (h : ∀ e, conv x (cf d') e % p = cf d e % p) {l l' : Int} {d1 d1' : Pol} (a : d = (0, l) :: d1) (a' : d' = (0, l') :: d1') {d0 d0' : Pol} {deg deg' c c' : Int} (b : d = d0 ++ [(deg, c)]) (b' : d' = d0' ++ [(deg', c')]) :
    ∃ x0 m k, x = x0 ++ [(m, k)] ∧ (∀ t ∈ x, 0 ≤ t.1) ∧ m + deg' ≤ deg := by
  have hx : x ≠ [] := fun z => by
    refine hd (nf_zero nd fun e => ?_)
    rw [← h e, z]
    exact Int.zero_emod _
  obtain ⟨x0, m, k, hx0⟩ := ne_snoc hx
  refine ⟨x0, m, k, hx0, fun s hs => ?_, ?_⟩
  · obtain ⟨t, xs, rfl⟩ := List.exists_cons_of_ne_nil hx
    have hle := asc_le nx.asc hs
    have h1 := h (t.1 + 0)
    rw [a'] at h1 nd'
    have e1 : conv (t :: xs) (cf ((0, l') :: d1')) (t.1 + 0) = t.2 * l' := conv_least nx.asc nd'.asc
    rw [e1, Int.add_zero] at h1
    have h3 := nx.rng t List.mem_cons_self
    have h4 := nd'.rng (0, l') List.mem_cons_self
    have h5 := prime_nz hp h3.1 h3.2 h4.1 h4.2
    by_cases z : cf d t.1 = 0
    · rw [z, Int.zero_emod] at h1
      exact absurd h1 h5
    · obtain ⟨y, hy, e⟩ := cf_ne z
      rw [a] at hy nd
      have := asc_le nd.asc hy
      have : (0 : Int) ≤ y.1 := this
      omega
  · subst hx0
    have h1 := h (m + deg')
    rw [b'] at h1 nd'
    have e1 : conv (x0 ++ [(m, k)]) (cf (d0' ++ [(deg', c')])) (m + deg') % p = k * c' % p := conv_great nx.asc nd'.asc
    rw [e1] at h1
    have h3 := nx.rng (m, k) (by simp)
    have h4 := nd'.rng (deg', c') (by simp)
    have h5 := prime_nz hp h3.1 h3.2 h4.1 h4.2
    by_cases z : cf d (m + deg') = 0
    · rw [z, Int.zero_emod] at h1
      exact absurd h1 h5
    · obtain ⟨y, hy, e⟩ := cf_ne z
      rw [b] at hy nd
      have := asc_last nd.asc y hy
      have : y.1 ≤ deg := this
      omega
theorem gd_uniq {p : Int} (hp : p ∈ primes) {d d' : Pol} (g : Gd p d) (g' : Gd p d') (h : Dv p d d') (h' : Dv p d' d) : d = d' := by
  have hpr := prime_rng p hp
  obtain ⟨x, nx, hx⟩ := h'
  obtain ⟨y, ny, hy⟩ := h
  rcases g.nz with z | ⟨⟨l, d1, a⟩, d0, deg, b⟩
  · subst z
    refine (nf_zero g'.nf fun e => ?_).symm
    rw [← hy e]
    have : conv y (cf []) e = 0 := (conv_congr (G' := fun _ => 0) (fun _ => rfl) y e).trans (conv_zero y e)
    rw [this]
    exact Int.zero_emod _
  rcases g'.nz with z | ⟨⟨l', d1', a'⟩, d0', deg', b'⟩
  · subst z
    refine nf_zero g.nf fun e => ?_
    rw [← hx e]
    have : conv x (cf []) e = 0 := (conv_congr (G' := fun _ => 0) (fun _ => rfl) x e).trans (conv_zero x e)
    rw [this]
    exact Int.zero_emod _
  have hd : d ≠ [] := fun z => by rw [z] at a; cases a
  have hd' : d' ≠ [] := fun z => by rw [z] at a'; cases a'
  obtain ⟨x0, m, k, ex, x1, x2⟩ := dv_ends hp nx g.nf g'.nf hd hx a a' b b'
  obtain ⟨y0, m', k', ey, y1, y2⟩ := dv_ends hp ny g'.nf g.nf hd' hy a' a b' b
  have m0 := x1 (m, k) (by rw [ex]; simp)
  have m0' := y1 (m', k') (by rw [ey]; simp)
  have m0 : 0 ≤ m := m0
  have m0' : 0 ≤ m' := m0'
  have hm : m = 0 := by omega
  have hx0 : x0 = [] := by
    cases x0 with
    | nil => rfl
    | cons t xs =>
      have h1 := x1 t (by rw [ex]; simp)
      have h2 := nx.asc
      rw [ex] at h2
      have h3 := (List.pairwise_append.mp h2).2.2 t List.mem_cons_self (m, k) (by simp)
      have h3 : t.1 < m := h3
      omega
  rw [hx0, hm] at ex
  have ex : x = [(0, k)] := ex
  have hk := nx.rng (0, k) (by rw [ex]; simp)
  have hdeg : deg = deg' := by omega
  have hk1 : k = 1 := by
    have h1 := hx deg
    rw [ex] at h1
    have e1 : conv [(0, k)] (cf d') deg = k * 1 := by
      show k * cf d' (deg - 0) + 0 = _
      have hn := g'.nf.asc
      rw [b'] at hn
      rw [Int.sub_zero, Int.add_zero, hdeg, b', cf_mem hn (deg', 1) (by simp)]
    have e2 : cf d deg = 1 := by
      have hn := g.nf.asc
      rw [b] at hn
      rw [b]
      exact cf_mem hn (deg, 1) (by simp)
    rw [e1, e2, Int.mul_one, Int.emod_eq_of_lt (by omega) hk.2, Int.emod_eq_of_lt (by decide) (by omega)] at h1
    exact h1
  refine g.nf.uniq g'.nf fun e => ?_
  rw [← hx e, ex, hk1, conv_one, Int.sub_zero]
/-- d is the greatest common divisor of f and g -/
structure IsG (p : Int) (f g d : Pol) : Prop where
  gd : Gd p d
  md : In p f g d
  l : In p d [] f
  r : In p d [] g
theorem IsG.uniq {p : Int} (hp : p ∈ primes) {f g f' g' d d' : Pol} (a : IsG p f g d) (b : IsG p f' g' d') (h1 : In p f g f') (h2 : In p f g g') (h3 : In p f' g' f) (h4 : In p f' g' g) : d = d' := by
  have hpr := prime_rng p hp
  exact gd_uniq hp a.gd b.gd ((a.l.trans a.r (h1.trans h2 b.md)).dv (by omega)) ((b.l.trans b.r (h3.trans h4 a.md)).dv (by omega))
/-! ### moved to begin at exponent 0 -/
end DR
namespace DR
open PySem PySem.Spec PyProof.Rows L2
/-- a pair of polynomials -/
def PrV (K : PySem.W.Frag) (H : Hp) (v : V) (f g : Pol) : Prop := ∃ a x y, v = .ref a ∧ SqT K H a [x, y] ∧ TPol K H x f ∧ TPol K H y g
theorem PrV.tp {K : PySem.W.Frag} {H H' : Hp} {v : V} {f g : Pol} (e : Tp H H') (h : PrV K H v f g) : PrV K H' v f g := by
  obtain ⟨a, x, y, rfl, h1, h2, h3⟩ := h
  exact ⟨a, x, y, rfl, tp_t e h1, h2.tp e, h3.tp e⟩
end DR
namespace DR
open PySem PySem.Spec PyProof.Rows L2
section
variable {p : Int}
theorem IsG.mono (hp : 2 ≤ p) (e : Int) (g : Pol) : IsG p [(e, 1)] g [(0, 1)] := by
  have all : ∀ u, In p [(0, 1)] [] u := fun u => ⟨u, [], fun x => by
    rw [conv_comm, conv_one, Int.sub_zero, conv_nil, Int.add_zero]⟩
  refine ⟨⟨nf_one (by decide) (by omega), .inr ⟨⟨1, [], rfl⟩, [], 0, rfl⟩⟩, ?_, all _, all _⟩
  have := (In.l (p := p) (f := [(e, 1)]) (g := g)).mv (-e)
  have e1 : moved (-e) [(e, 1)] = [(0, 1)] := by
    show [(e + -e, 1)] = _
    rw [Int.add_right_neg]
  rw [e1] at this
  exact this
/-! ### 1 - t ** k -/
def GapP (p : Int) (g : Pol) (k : Int) : Prop := Nf p g (fun e => cf [(0, 1)] e - cf [(k, 1)] e)
theorem gap_ex (hp : 0 < p) (k : Int) : ∃ g, GapP p g k := by
  obtain ⟨g, h⟩ := nf_ex hp [(0, 1), (k, -1)]
  refine ⟨g, h.to fun e => ?_⟩
  congr 1
  show (if 0 = e then 1 else 0) + ((if k = e then -1 else 0) + 0) = (if 0 = e then 1 else 0) + 0 - ((if k = e then 1 else 0) + 0)
  split <;> split <;> omega
def GapIn (p : Int) (f g : Pol) (k : Int) : Prop := ∀ u, GapP p u k → In p f g u
theorem cf_one1 (k e : Int) : cf [(k, 1)] e = if k = e then 1 else 0 := by
  show (if k = e then 1 else 0) + 0 = _
  rw [Int.add_zero]
theorem GapIn.sub (hp : 0 < p) {f g : Pol} {a b : Int} (h : GapIn p f g a) (h2 : GapIn p f g b) : GapIn p f g (a - b) := fun u hu => by
  obtain ⟨ua, ha⟩ := gap_ex hp a
  obtain ⟨ub, hb⟩ := gap_ex hp b
  obtain ⟨w, hw⟩ := nf_ex hp (ua ++ ub.map fun t => (t.1, t.2 * -1))
  have hw2 : ∀ e, cf w e % p = (cf ua e - cf ub e) % p := fun e => by
    rw [hw.cof, Int.emod_emod, cf_append, cf_scale]
    congr 1
    omega
  have iw : In p f g w := (h ua ha).sub (h2 ub hb) hw2
  refine (iw.mv (-b)).to fun e => ?_
  rw [cf_moved, hw2, ha.cof, hb.cof, hu.cof, Int.emod_emod, ← Int.sub_emod]
  congr 1
  rw [show e - -b = e + b by omega, cf_one1, cf_one1, cf_one1, cf_one1, cf_one1]
  by_cases h1 : a = e + b
  · rw [if_pos h1, if_pos (by omega : a - b = e)]
    by_cases h3 : b = e + b
    · rw [if_pos h3, if_pos (by omega : (0 : Int) = e)]
      omega
    · rw [if_neg h3, if_neg (by omega : ¬ (0 : Int) = e)]
      omega
  · rw [if_neg h1, if_neg (by omega : ¬ a - b = e)]
    by_cases h3 : b = e + b
    · rw [if_pos h3, if_pos (by omega : (0 : Int) = e)]
      omega
    · rw [if_neg h3, if_neg (by omega : ¬ (0 : Int) = e)]
      omega
end
end DR
namespace DR
open PySem PySem.Spec PyProof.Rows L2
/-! ### sums over the terms, class sums -/
def ws (φ : Int → Int) : Pol → Int
  | [] => 0
  | t :: r => t.2 * φ t.1 + ws φ r
/-! ### commuting: q (1 - t ** s) = f (1 - t ** k) -/
def Cm (p : Int) (f : Pol) (s : Int) (q : Pol) (k : Int) : Prop := ∀ e, (cf q e - cf q (e - s)) % p = (cf f e - cf f (e - k)) % p
theorem Cm.uniq {p : Int} (hp : p ∈ primes) {f q q' : Pol} {s k : Int} (hs : s ≠ 0) (nq : Nf p q (cf q)) (nq' : Nf p q' (cf q')) (h : Cm p f s q k) (h' : Cm p f s q' k) : q = q' := by
  have hpr := prime_rng p hp
  obtain ⟨g, ng⟩ := gap_ex (p := p) (by omega) s
  refine nq.uniq nq' fun e => conv_cancel hp ng.self (gap_ne hpr.1 hs ng) (fun e => ?_) e
  rw [gap_conv ng, gap_conv ng, h e, h' e]
theorem mod_sub {p a b c d : Int} (h : a % p = b % p) (k : c % p = d % p) : (a - c) % p = (b - d) % p := by
  rw [Int.sub_emod, h, k, ← Int.sub_emod]
/-- a power's polynomial over its base -/
theorem Cm.power {p : Int} (hp : p ∈ primes) {f q : Pol} {s k n : Int} (hk : k ≠ 0) (hn : 0 ≤ n) (hs : s = n * k) (h : Cm p f s q k) (e : Int) : pwF (cf q) k n e % p = cf f e % p := by
  have hpr := prime_rng p hp
  obtain ⟨g, ng⟩ := gap_ex (p := p) (by omega) k
  have e1 : ∀ x, pwF (cf q) k n x = conv q (cf (rounds n.toNat k)) x := fun x => (pw_rounds q k hn x).symm
  have e2 : ∀ x, pwF (cf q) k n x = cf (prods q (rounds n.toNat k)) x := fun x => by rw [e1, cf_prods]
  have tel : ∀ x, pwF (cf q) k n x - pwF (cf q) k n (x - k) = cf q x - cf q (x - n * k) := fun x => by
    have h1 := pw_add (cf q) k 1 n x
    have h2 := pw_add (cf q) k n 1 x
    rw [pw_one] at h1 h2
    rw [Int.one_mul] at h1
    rw [Int.add_comm 1 n] at h1
    omega
  have key : ∀ x, cf (prods q (rounds n.toNat k)) x % p = cf f x % p := conv_cancel hp ng.self (gap_ne hpr.1 hk ng) fun x => by
    rw [gap_conv ng, gap_conv ng, ← e2, ← e2, tel, ← hs]
    exact h x
  rw [e2]
  exact key e
/-! ### the promises -/
theorem Cal.imp {P : Program} {w : World} {K : PySem.W.Frag} {mg : Str → Option Value} {base : Heap} {k : Nat} {x : Str} {sp sp' : Sp} (c : Cal P w K mg base k x sp) (h : ∀ vs H Q E, sp' vs H Q E → sp vs H Q E) : Cal P w K mg base k x sp' := by
  obtain ⟨f, fd, ps, F, r⟩ := c.ex
  exact ⟨f, fd, ps, F.imp h, r⟩
/-! ### the laws' own long division, with its quotient -/
end DR
namespace DR
open PySem PySem.Spec PyProof.Rows L2
/-! ### commuting is the same fraction f / (1 - t ** s) -/
theorem Cm.refl {p : Int} (f : Pol) (s : Int) : Cm p f s f s := fun _ => rfl
theorem Cm.symm {p : Int} {f q : Pol} {s k : Int} (h : Cm p f s q k) : Cm p q k f s := fun e => (h e).symm
theorem Cm.trans {p : Int} (hp : p ∈ primes) {f q r : Pol} {s k m : Int} (hk : k ≠ 0) (h : Cm p f s q k) (h2 : Cm p q k r m) : Cm p f s r m := by
  have hpr := prime_rng p hp
  obtain ⟨g, ng⟩ := gap_ex (p := p) (by omega) k
  let A : Pol := r ++ (moved s r).map fun t => (t.1, t.2 * -1)
  let B : Pol := f ++ (moved m f).map fun t => (t.1, t.2 * -1)
  have hA : ∀ e, cf A e = cf r e - cf r (e - s) := fun e => by
    show cf (r ++ (moved s r).map fun t => (t.1, t.2 * -1)) e = _
    rw [cf_append, cf_scale, cf_moved]
    omega
  have hB : ∀ e, cf B e = cf f e - cf f (e - m) := fun e => by
    show cf (f ++ (moved m f).map fun t => (t.1, t.2 * -1)) e = _
    rw [cf_append, cf_scale, cf_moved]
    omega
  have key : ∀ e, cf A e % p = cf B e % p := conv_cancel hp ng.self (gap_ne hpr.1 hk ng) fun e => by
    rw [gap_conv ng, gap_conv ng, hA, hA, hB, hB]
    have e1 := mod_sub (h2 e) (h2 (e - s))
    have e2 := mod_sub (h e) (h (e - m))
    rw [show cf r e - cf r (e - s) - (cf r (e - k) - cf r (e - k - s)) = cf r e - cf r (e - k) - (cf r (e - s) - cf r (e - s - k)) by rw [show e - k - s = e - s - k by omega]; omega, e1]
    rw [show cf f e - cf f (e - m) - (cf f (e - k) - cf f (e - k - m)) = cf f e - cf f (e - k) - (cf f (e - m) - cf f (e - m - k)) by rw [show e - k - m = e - m - k by omega]; omega, ← e2]
    congr 1
    rw [show e - s - m = e - m - s by omega]
    omega
  exact fun e => by rw [← hA, ← hB, key e]
theorem Cm.inv {p : Int} {f r : Pol} {s : Int} (nr : Nf p r (fun e => cf f (e + s) * -1)) : Cm p f s r (-s) := fun x => by
  rw [show (cf f x - cf f (x - -s)) = cf f (x + s) * -1 - cf f (x - s + s) * -1 by rw [show x - s + s = x by omega, show x - -s = x + s by omega]; omega]
  exact mod_sub (by rw [nr.cof, Int.emod_emod]) (by rw [nr.cof, Int.emod_emod])
/-- the shifts of what commutes -/
def Ks (p : Int) (f : Pol) (s m : Int) : Prop := ∃ q : Pol, Cm p f s q m
theorem Ks.sub {p : Int} {f : Pol} {s a b : Int} (h : Ks p f s a) (h2 : Ks p f s b) : Ks p f s (a - b) := by
  obtain ⟨q, hq⟩ := h
  obtain ⟨r, hr⟩ := h2
  refine ⟨q ++ (moved (a - b) r).map fun t => (t.1, t.2 * -1), fun e => ?_⟩
  rw [cf_append, cf_append, cf_scale, cf_scale, cf_moved, cf_moved]
  have e1 := mod_sub (hq e) (hr (e - (a - b)))
  rw [show cf f e - cf f (e - (a - b)) = cf f e - cf f (e - a) - (cf f (e - (a - b)) - cf f (e - (a - b) - b)) by rw [show e - (a - b) - b = e - a by omega]; omega, ← e1]
  congr 1
  rw [show e - s - (a - b) = e - (a - b) - s by omega]
  omega
theorem Ks.neg {p : Int} {f : Pol} {s a : Int} (h : Ks p f s a) : Ks p f s (-a) := by
  have h0 := h.sub h
  have := h0.sub h
  rw [show a - a - a = -a by omega] at this
  exact this
theorem Ks.abs {p : Int} {f : Pol} {s a : Int} (h : Ks p f s a) : Ks p f s ((a.natAbs : Nat) : Int) := by
  rcases Int.natAbs_eq a with e | e
  · rw [← e]
    exact h
  · have := h.neg
    rw [show ((a.natAbs : Nat) : Int) = -a by omega]
    exact this
/-- what root gives -/
structure IsR (p : Int) (f : Pol) (s : Int) (q : Pol) (k c : Int) : Prop where
  nf : Nf p q (cf q)
  pos : 0 < c
  mul : s = c * k
  cm : Cm p f s q k
  prim : ∀ m, Ks p f s m → k ∣ m
theorem IsR.k0 {p : Int} {f q : Pol} {s k c : Int} (h : IsR p f s q k c) (hs : s ≠ 0) : k ≠ 0 := fun z => hs (by rw [h.mul, z, Int.mul_zero])
end DR
namespace L2
open PySem PySem.Spec PyProof.Rows
/-! ### an exception that is kept behind its except suite: there it is tracked -/
/-! ### isinstance of an exception that is held -/
end L2
namespace L2
open PySem PySem.Spec PyProof.Rows
/-! ### own exception classes over any built-in one, whose `__init__` keeps one field -/
/-- the class at C stands over the built-in class B -/
structure Over (K : PySem.W.Frag) (B newId initId : String) (line : List Value) (C : Addr) : Prop where
  fb : ExcBaseFacts B newId initId line
  sf : StoreFacts B line "object.__setattr__" "object"
  ini : PySem.W.excInitIn K C line newId = true
  ovr : PySem.W.excOver K C line = true
  own : PySem.W.hasDictIn K C = true ∧ PySem.W.keepIn K (.ref C) = true
  slots : PySem.W.findIn K (.ref C) "__setattr__" = some (some (.builtin "object.__setattr__")) ∧ PySem.W.findIn K (.ref C) "__getattribute__" = some (some (.builtin "BaseException.__getattribute__")) ∧ PySem.W.findIn K (.ref C) "__getattr__" = some none
  sub : PySem.W.subIn K (.ref C) (.type "BaseException") = some true
  ty : PySem.W.typeIn K (.ref C) = some (.type "type")
section
variable {X : Cx} {pins : List (Addr × Obj)} {σ : St} {H : Hp} {s : Shared} {a C : Addr} {f : Str} {y : V} {u : Value} {Q : Unit → Shared → Prop} {E : Value → Shared → Prop} {A : Around} {B newId initId : String} {line : List Value}
/-- the first field of an exception that is being made -/
theorem first_field (T : Over X.K B newId initId line C) (I : Inv X pins σ H s) (e : H a = some (exo a C none)) (hno : PySem.W.findIn X.K (.ref C) f = some none) (ry : RelV y u)
    (on : ∀ q s1, H q = none → q ≠ a → Inv X pins σ (upd (upd H q (exd q [(f, y)])) a (exo a C (some q))) s1 → Q () s1) : wpAny (model X.prog X.w) A (setAttr (.ref a) f u) Q E s := by
  have ⟨t1, ho⟩ := exo_at I.hok e
  have tk : PySem.W.takerIn X.K C f = some none := by
    unfold PySem.W.takerIn
    rw [hno, Option.bind_some]
  obtain ⟨hp, g, d, t, os⟩ := s
  have here : PySem.W.InstAt hp a { cls := .ref C, dict := none, data := .fields #[.ref t1, .none, .none, .none, .bool false, .none] } C none := ⟨ho, rfl, rfl, trivial⟩
  refine PySem.W.set_plain I.kIn here T.slots.1 ?_
  refine PySem.W.osa_openX T.sf I.kIn here T.ovr tk fun b => ?_
  obtain ⟨cd, hc, hd⟩ := PySem.W.any_some T.own.1
  refine wpAny_bind (wpAny_pure (wpAny_bind (PySem.W.instanceDict_exc (t := t1) (c2 := .none) ho (PySem.W.looks_clsIn I.kIn hc) hd ?_)))
  have ha : a < hp.objs.size := Heap.lt_size ho
  have ne : hp.objs.size ≠ a := Nat.ne_of_gt ha
  have ho1 : (hp.push (PySem.W.dictOf [] 0)).get? a = some _ := Heap.get?_push_of_some _ ho
  -- the heap with the dict laid and tied to the exception
  generalize eG : (hp.push (PySem.W.dictOf [] 0)).update a (fun o => { o with dict := some hp.objs.size }) = G
  have Ga : G.get? a = some { cls := .ref C, dict := some hp.objs.size, data := .fields #[.ref t1, .none, .none, .none, .bool false, .none] } := by
    rw [← eG]
    exact Heap.get?_update_self _ ho1 rfl
  have Gk : ∀ b o, b ≠ a → hp.get? b = some o → G.get? b = some o := fun b o hb q => by
    rw [← eG]
    exact (Heap.get?_update_ne _ _ _ _ hb).trans (Heap.get?_push_of_some _ q)
  have Gd : G.get? hp.objs.size = some (PySem.W.dictOf [] 0) := by
    rw [← eG]
    exact (Heap.get?_update_ne _ _ _ _ ne).trans (Heap.get?_push_at rfl rfl)
  show wpAny _ _ (Builtin.ObjectAttr.storeInDict hp.objs.size _ f u) _ _ ⟨G, g, d, _, os⟩
  refine HandSPX.store_in_new ⟨_, #[], _, Gd, rfl, fun x hx => absurd hx (by simp), fun _ => rfl⟩ fun h' tk' hn same => ?_
  have k : ∀ b o, b ≠ a → hp.get? b = some o → h'.get? b = some o := fun b o hb q => (same.2 b (Nat.ne_of_lt (Heap.lt_size q))).trans (Gk b o hb q)
  have hx : h'.get? a = some _ := (same.2 a ne.symm).trans Ga
  have hnd : H hp.objs.size = none := I.hok.fresh (Nat.le_refl _)
  have off : ∀ {b : Addr} {o : Obj}, hp.get? b = some o → b ≠ hp.objs.size := fun {b o} q => Nat.ne_of_lt (Heap.lt_size q)
  have apart : ∀ {b : Addr}, H b = none → b ≠ a := fun {b} n z => by
    rw [z, e] at n
    cases n
  have only : ∀ {b : Addr} {v : HO}, H b = some v → exo a C none ≠ v → upd (upd H hp.objs.size (exd hp.objs.size [(f, y)])) a (exo a C (some hp.objs.size)) b = some v := fun {b v} q z => by
    rw [upd_ne (at_ne e q z), upd_ne (ne_of_none q hnd)]
    exact q
  have step : Un X.fs [] H (upd (upd H hp.objs.size (exd hp.objs.size [(f, y)])) a (exo a C (some hp.objs.size))) hp h' := by
    constructor
    · exact fun b o q n _ _ => k b o (apart n) q
    · exact fun b o q n _ _ => ⟨o.slots, k b o (apart n) q⟩
    · intro b o q n _
      rw [upd_ne (apart n), upd_ne (off q)]
      exact n
    · intro b o q _
      by_cases hb : b = a
      · subst hb
        exact ⟨_, hx⟩
      · exact ⟨o, k b o hb q⟩
    · exact fun b xs q => only q exo_tup
    · exact fun b o v q => only q exo_frz
    · exact fun b ps q => ⟨#[], (only q exo_tbl).trans (by simp)⟩
  refine on hp.objs.size _ hnd ne (I.un (t' := tk') step fun b o q => ?_)
  by_cases hb : b = a
  · subst hb
    rw [upd_same] at q
    cases q
    exact exo_ok hx
  rw [upd_ne hb] at q
  by_cases hd2 : b = hp.objs.size
  · subst hd2
    rw [upd_same] at q
    cases q
    exact exd_ok hn (relO_put (fs := []) ry fun _ => True.intro)
  rw [upd_ne hd2] at q
  refine (I.hok b o q).stay (fun c v hc z => ?_) (fun c hc => only hc exo_own) (fun c xs hc => only hc exo_tup)
  have hca : c ≠ a := by
    rcases hc with rfl | hc
    · exact hb
    · exact at_ne e hc exo_own
  exact k c v hca z
end
/-- self.f = e, the first one -/
def tFirst (B newId initId : String) (line : List Value) (K : PySem.W.Frag) (f : Str) (to te : TE) : TS := fun D σ H => te σ H fun y H1 => to σ H1 fun x H2 => ∃ a C : Addr, x = .ref a ∧ Over K B newId initId line C ∧ PySem.W.findIn K (.ref C) f = some none ∧
  H2 a = some (exo a C none) ∧ ∀ dx, H2 dx = none → dx ≠ a → D.nx σ (upd (upd H2 dx (exd dx [(f, y)])) a (exo a C (some dx)))
/-- what such an `__init__` does -/
def sp_first (C : Addr) (f : Str) : Sp := fun vs H Q _ => ∃ (a : Addr) (v : V), vs = [.ref a, v] ∧ H a = some (exo a C none) ∧ ∀ dx, H dx = none → dx ≠ a → Q .non (upd (upd H dx (exd dx [(f, v)])) a (exo a C (some dx)))
/-- C(e): the exception with its field -/
def tMade (C : Addr) (f : Str) (ta : TA) : St → Hp → XK → Prop := fun σ H Q => ta σ H fun vs H1 => ∃ v, vs = [v] ∧ ∀ d, H1 d = none → Q (.ref C) (some d) (upd H1 d (.xd [(f, v)]))
/-- an own exception class x over B with one field f, kept by its `__init__` -/
structure OwnF (P : Program) (w : World) (K : PySem.W.Frag) (mg : Str → Option Value) (base : Heap) (B newId initId : String) (line : List Value) (x f : Str) (C : Addr) : Prop where
  over : Over K B newId initId line C
  gl : mg x = some (.ref C)
  no : PySem.W.findIn K (.ref C) f = some none
  init : ∃ (fI : Addr) (fd : FuncData) (ps : List Str), PySem.W.findIn K (.ref C) "__init__" = some (some (.ref fI)) ∧ PySem.W.typeIn K (.ref fI) = some (.type "function") ∧ FnOk P w K mg base CX0 1 fI fd ps (sp_first C f) ∧ Binds K fd ps []
section
variable {X : Cx} {o e : Expr} {es : List Expr} {to te : TE} {ta : TA} {f : Str} {p p' pos pos' : Pos} {B newId initId : String} {line : List Value}
theorem ps_first (ho : PE X o to) (he : PE X e te) (hs : swapsWith e (some (.Attribute o f p')) pos.line X.env = pure false := by rfl) : PS X (.Assign [.Attribute o f p'] e pos) (tFirst B newId initId line X.K f to te) := by
  constructor
  intro pins s σ H D I h
  refine plainObj_wpAny_Assign_Attribute (thn (he.run pins s σ H _ I h) ?_) hs
  rintro v s1 ⟨y, H1, I1, r1, q1⟩
  refine thn (ho.run pins s1 σ H1 _ I1 q1) ?_
  rintro u s2 ⟨x, H2, I2, r2, a, C, rfl, T, hno, ea, q⟩
  obtain rfl : u = Value.ref a := r2
  exact first_field T I2 ea hno r1 fun dx s' n ne J => ⟨σ, _, J, q dx n ne⟩
theorem pmk_first {C : Addr} {x : Str} {j : Nat} (T : OwnF X.prog X.w X.K X.mg X.base B newId initId line x f C) (hr : Room j X.A) (h2 : 2 ≤ j) (hg : Gl X x) (ha : PA X (e :: es) ta)
    (he : starEach (e :: es) X.env = (false, eval e X.env) :: starEach es X.env := by rfl) (hpl : (backTo pos (starEach es X.env)).any (·.1) = false := by rfl) (hdb : (x == ("__debug__" : Str)) = false := by decide) :
    PMk X (.Call (.Name x p) (e :: es) [] pos) (tMade C f ta) := by
  intro pins s σ H Q I h
  have Z := T.over
  obtain ⟨fI, fd, ps, iC, tI, F1, hb⟩ := T.init
  refine wpAny_Call_Name_kw (ld_glob I hg T.gl ?_ hdb)
  refine PySem.W.callWith_K (h₀ := X.base) I.ok.mod.kin Z.own.2 (thn (ha.run pos pins s σ H _ I h) ?_) he hpl
  rintro us s1 ⟨vs, H1, I1, r1, v, rfl, q1⟩
  refine ⟨I1.kIn, ?_⟩
  show wpAny _ _ (call (.ref C) us) _ _ _
  obtain ⟨v', rfl, rv⟩ : ∃ v', us = [v'] ∧ RelV v v' := by
    cases r1 with
    | cons rv rn =>
      cases rn
      exact ⟨_, rfl, rv⟩
  obtain ⟨nm, N, qn, bs, bm, hdct, sn, sub, ab, col, dd, k0, k1, k2, k3, k5, hC, hT⟩ := PySem.W.excInit_of I1.kIn Z.ini
  obtain ⟨hp, g, dr, tk, os⟩ := s1
  have above : hp.objs.size ≤ hp.objs.size + 1 := Nat.le_succ _
  have hn : H1 (hp.objs.size + 1) = none := I1.hok.fresh above
  have grown : ∀ b o, hp.get? b = some o → ((hp.push (PySem.W.kdv_tup [v'])).push (PySem.HandSPX.excO C hp.objs.size)).get? b = some o := fun b o q => Heap.get?_push_of_some _ (Heap.get?_push_of_some _ q)
  have there : ((hp.push (PySem.W.kdv_tup [v'])).push (PySem.HandSPX.excO C hp.objs.size)).get? (hp.objs.size + 1) = some (PySem.HandSPX.excO C hp.objs.size) := by heap_get
  have I2 := I1.laid (t' := tk) (a := hp.objs.size + 1) (o := exo (hp.objs.size + 1) C none) grown above (exo_ok there)
  have told : sp_first C f [.ref (hp.objs.size + 1), v] (upd H1 (hp.objs.size + 1) (exo (hp.objs.size + 1) C none))
      (fun r H2 => r = .non ∧ ∃ d : Addr, H1 d = none ∧ H2 = upd (upd (upd H1 (hp.objs.size + 1) (exo (hp.objs.size + 1) C none)) d (exd d [(f, v)])) (hp.objs.size + 1) (exo (hp.objs.size + 1) C (some d)) ∧ d ≠ hp.objs.size + 1) (fun _ _ _ => False) :=
    ⟨_, _, rfl, upd_same, fun dx n ne => ⟨rfl, dx, by rwa [upd_ne ne] at n, rfl, ne⟩⟩
  have args : Vals [V.ref (hp.objs.size + 1), v] [Value.ref (hp.objs.size + 1), v'] := .cons rfl (.cons rv .nil)
  have many : [Value.ref (hp.objs.size + 1), v'].length = ps.length := args.length.symm.trans (F1.len _ _ _ _ told)
  have small : [v'].length ≤ sizeLine := by
    rw [sizeLine_eq]
    exact (by decide : 1 ≤ 16777216)
  refine wpAny_call (PySem.HandSPX.call_own Z.fb hT hC (PySem.W.looks_findIn I1.kIn iC) (fun self => PySem.W.bind_fn I1.kIn self tI) small
    (codeAny_mono (F1.run _ X.stack _ _ ⟨[Value.ref (hp.objs.size + 1), v'], []⟩ [Value.ref (hp.objs.size + 1), v'] _ _ (fun _ _ _ => False) ((hr.mono h2).make C [v'] []) (I2.env0.make C [v'] [])
      (by have z := hb _ [Value.ref (hp.objs.size + 1), v'] I2.kIn many; rwa [List.append_nil] at z) args told) ?_))
  rintro (er | fl) s' over
  · exact over.elim
  cases fl
  case ret ru =>
    obtain ⟨r, H2, os2, bare2, un2, hok2, rr, rfl, d, hd1, rfl, hne⟩ := over
    obtain ⟨h2, g2, d2, t2, os'⟩ := s'
    refine ⟨rr, ?_⟩
    have e1 : upd (del (upd (upd (upd H1 (hp.objs.size + 1) (exo (hp.objs.size + 1) C none)) d (exd d [(f, v)])) (hp.objs.size + 1) (exo (hp.objs.size + 1) C (some d))) (hp.objs.size + 1)) d (.xd [(f, v)]) = upd H1 d (.xd [(f, v)]) := by
      funext b
      by_cases hbd : b = d
      · rw [hbd, upd_same, upd_same]
      · rw [upd_ne hbd, upd_ne hbd]
        by_cases hba : b = hp.objs.size + 1
        · rw [hba, del_same, hn]
        · rw [del_ne hba, upd_ne hba, upd_ne hbd, upd_ne hba]
    exact mk_end (raises_own Z.sub Z.ty) I1 above grown un2 hok2 os2 bare2 upd_same ((upd_ne hne).trans upd_same) hd1 (by rw [e1]; exact q1 d hd1)
  all_goals exact over.elim
/-- raise C(e) -/
theorem ps_raiseF {C : Addr} {W : WX} {x : Str} {j : Nat} (T : OwnF X.prog X.w X.K X.mg X.base B newId initId line x f C) (hc : X.calm = true) (tk : Takes X W) (hr : Room j X.A) (h2 : 2 ≤ j) (hg : Gl X x) (ha : PA X [e] ta)
    (hdb : (x == ("__debug__" : Str)) = false := by decide) (he : starEach (e :: []) X.env = (false, eval e X.env) :: starEach [] X.env := by rfl) (hpl : (backTo pos (starEach [] X.env)).any (·.1) = false := by rfl) :
    PS X (.Raise (some (.Call (.Name x p) [e] [] pos)) none pos') (fun _ σ H => tMade C f ta σ H fun cls d H' => W cls d σ H') :=
  ps_raise hc tk (pmk_first T hr h2 hg ha he hpl hdb)
end
end L2
namespace L2
open PySem PySem.Spec PyProof.Rows
/-! ### isinstance of an exception that is held with its dict -/
end L2
/-! ### methods of own classes, by their names; a reader of tokens -/
namespace DR
open PySem PySem.Spec PyProof.Rows L2
structure MetC (CX : CXT) (P : Program) (w : World) (K : PySem.W.Frag) (mg : Str → Option Value) (base : Heap) (C : Addr) (k : Nat) (m : Str) (sp : Sp) : Prop where
  ex : ∃ (f : Addr) (fd : FuncData) (ps : List Str), FnOk P w K mg base CX k f fd ps sp ∧ Meth K C m f ∧ Binds K fd ps []
section
variable {CX : CXT} {P : Program} {w : World} {K : PySem.W.Frag} {mg : Str → Option Value} {base : Heap} {C : Addr} {k : Nat} {m : Str} {sp : Sp}
noncomputable def MetC.f (c : MetC CX P w K mg base C k m sp) : Addr := c.ex.choose
noncomputable def MetC.fd (c : MetC CX P w K mg base C k m sp) : FuncData := c.ex.choose_spec.choose
noncomputable def MetC.ps (c : MetC CX P w K mg base C k m sp) : List Str := c.ex.choose_spec.choose_spec.choose
theorem MetC.ok (c : MetC CX P w K mg base C k m sp) : FnOk P w K mg base CX k c.f c.fd c.ps sp := c.ex.choose_spec.choose_spec.choose_spec.1
theorem MetC.hm (c : MetC CX P w K mg base C k m sp) : Meth K C m c.f := c.ex.choose_spec.choose_spec.choose_spec.2.1
theorem MetC.b (c : MetC CX P w K mg base C k m sp) : Binds K c.fd c.ps [] := c.ex.choose_spec.choose_spec.choose_spec.2.2
end
/-- where a method stands -/
structure DfM (K : PySem.W.Frag) (C : Addr) (m q : Str) (st : Stmt) : Prop where
  ex : ∃ (f : Addr) (fd : FuncData), Fun K m q st f fd ∧ Meth K C m f
theorem met_of {CX : CXT} {P : Program} {w : World} {K : PySem.W.Frag} {mg : Str → Option Value} {base : Heap} {C : Addr} {k : Nat} {m q : Str} {st : Stmt} {ps : List Str} {sp : Sp} (D : DfM K C m q st)
    (b : ∀ (kV doc pm : Value) (an : Option Addr) (cdv ct : Value) (us : List Value), us.length = ps.length → bindArgs (PySem.W.fnOf m q (defArgs st) (defBody st) (defScope st) .none kV doc pm an cdv ct) ⟨us, []⟩ = pure (ps.zip us))
    (ok : ∀ f fd, Fun K m q st f fd → FnOk P w K mg base CX k f fd ps sp) : MetC CX P w K mg base C k m sp := by
  obtain ⟨f, fd, F, hm⟩ := D.ex
  exact ⟨f, fd, ps, ok f fd F, hm, F.binds b⟩
/-- a method that calls itself: a level for each depth -/
theorem met_rec {CX : CXT} {P : Program} {w : World} {K : PySem.W.Frag} {mg : Str → Option Value} {base : Heap} {C : Addr} {m q : Str} {st : Stmt} {ps : List Str} (c : Nat) {sp : Nat → Sp} (D : DfM K C m q st)
    (b : ∀ (kV doc pm : Value) (an : Option Addr) (cdv ct : Value) (us : List Value), us.length = ps.length → bindArgs (PySem.W.fnOf m q (defArgs st) (defBody st) (defScope st) .none kV doc pm an cdv ct) ⟨us, []⟩ = pure (ps.zip us))
    (h0 : ∀ vs H Q E, ¬ sp 0 vs H Q E)
    (step : ∀ k, MetC CX P w K mg base C (k + c) m (sp k) → ∀ f fd, Fun K m q st f fd → FnOk P w K mg base CX (k + c + 1) f fd ps (sp (k + 1))) : ∀ k, MetC CX P w K mg base C (k + c) m (sp k)
  | 0 => by
    obtain ⟨f, fd, F, hm⟩ := D.ex
    exact ⟨f, fd, ps, ⟨fun vs H Q E h => absurd h (h0 vs H Q E), fun A outer s H args us vs Q E _ _ _ _ h => absurd h (h0 vs H Q E)⟩, hm, F.binds b⟩
  | k + 1 => by
    obtain ⟨f, fd, F, hm⟩ := D.ex
    have := step k (met_rec c D b h0 step k) f fd F
    exact ⟨f, fd, ps, (show k + c + 1 = k + 1 + c by omega) ▸ this, hm, F.binds b⟩
/-- the class that makes instances -/
structure MkF (P : Program) (w : World) (K : PySem.W.Frag) (mg : Str → Option Value) (base : Heap) (x : Str) (C : Addr) (k : Nat) (sp : Sp) : Prop where
  ex : ∃ (f : Addr) (fd : FuncData) (ps : List Str), Mk K C f ∧ FnOk P w K mg base CX0 k f fd ps sp ∧ Binds K fd ps []
  gl : mg x = some (.ref C)
section
variable {X : Cx} {W : WX} {C : Addr} {k j : Nat} {m x : Str} {sp : Sp} {o e : Expr} {es : List Expr} {ta : TE} {t : TA} {pos apos p : Pos} {E : XK}
theorem pe_mk_ (c : MkF X.prog X.w X.K X.mg X.base x C k sp) (hr : Room j X.A) (hk : k + 1 ≤ j) (hg : Gl X x) (ha : PA X (e :: es) t)
    (h1 : (x == ("__debug__" : Str)) = false := by decide) (h2 : starEach (e :: es) X.env = (false, eval e X.env) :: starEach es X.env := by rfl) (h3 : (backTo pos (starEach es X.env)).any (·.1) = false := by rfl) :
    PE X (.Call (.Name x p) (e :: es) [] pos) (tMake C sp [] E0 t) := by
  obtain ⟨f, fd, ps, M, F, b⟩ := c.ex
  exact pe_make M F (hr.mono hk) hg c.gl b .nil pass0 ha h1 h2 h3
end
/-! ### the reader's fields -/
def rdF (a : Addr) (s : RS) : List (Str × V) := [("tokens", .ref a), ("at", .int s.p), ("instructions", .int s.n), ("repeats", .int s.r)]
theorem nmR : (("at" : Str) == "tokens") = false ∧ (("instructions" : Str) == "tokens") = false ∧ (("instructions" : Str) == "at") = false ∧ (("repeats" : Str) == "tokens") = false ∧ (("repeats" : Str) == "at") = false ∧ (("repeats" : Str) == "instructions") = false := by decide +kernel
section
variable (a : Addr) (s : RS)
theorem rd_tokens : (rdF a s).lookup ("tokens" : Str) = some (.ref a) := by
  unfold rdF
  simp [List.lookup]
theorem rd_at : (rdF a s).lookup ("at" : Str) = some (.int s.p) := by
  unfold rdF
  simp only [List.lookup, nmR.1]
  simp
theorem rd_instructions : (rdF a s).lookup ("instructions" : Str) = some (.int s.n) := by
  unfold rdF
  simp only [List.lookup, nmR.2.1, nmR.2.2.1]
  simp
theorem rd_repeats : (rdF a s).lookup ("repeats" : Str) = some (.int s.r) := by
  unfold rdF
  simp only [List.lookup, nmR.2.2.2.1, nmR.2.2.2.2.1, nmR.2.2.2.2.2]
  simp
theorem rd_no {m : Str} (h : (m == ("tokens" : Str)) = false ∧ (m == ("at" : Str)) = false ∧ (m == ("instructions" : Str)) = false ∧ (m == ("repeats" : Str)) = false) : (rdF a s).lookup m = none := by
  unfold rdF
  simp only [List.lookup, h.1, h.2.1, h.2.2.1, h.2.2.2]
theorem nmR2 : ¬ ("tokens" : Str) = "at" ∧ ¬ ("tokens" : Str) = "instructions" ∧ ¬ ("tokens" : Str) = "repeats" ∧ ¬ ("at" : Str) = "instructions" ∧ ¬ ("at" : Str) = "repeats" ∧ ¬ ("instructions" : Str) = "repeats" := by decide +kernel
theorem rd_put_at (z : Nat) : putF "at" (.int z) (rdF a s) = rdF a ⟨z, s.n, s.r⟩ := by
  unfold rdF
  show (if ("tokens" : Str) = "at" then _ else (("tokens" : Str), V.ref a) :: (if ("at" : Str) = "at" then _ else _)) = _
  rw [if_neg nmR2.1, if_pos rfl]
theorem rd_put_n (z : Nat) : putF "instructions" (.int z) (rdF a s) = rdF a ⟨s.p, z, s.r⟩ := by
  unfold rdF
  show (if ("tokens" : Str) = "instructions" then _ else (("tokens" : Str), V.ref a) :: (if ("at" : Str) = "instructions" then _ else (("at" : Str), V.int s.p) :: (if ("instructions" : Str) = "instructions" then _ else _))) = _
  rw [if_neg nmR2.2.1, if_neg nmR2.2.2.2.1, if_pos rfl]
theorem rd_put_r (z : Nat) : putF "repeats" (.int z) (rdF a s) = rdF a ⟨s.p, s.n, z⟩ := by
  unfold rdF
  show (if ("tokens" : Str) = "repeats" then _ else (("tokens" : Str), V.ref a) :: (if ("at" : Str) = "repeats" then _ else (("at" : Str), V.int s.p) :: (if ("instructions" : Str) = "repeats" then _ else (("instructions" : Str), V.int s.n) :: (if ("repeats" : Str) = "repeats" then _ else _)))) = _
  rw [if_neg nmR2.2.2.1, if_neg nmR2.2.2.2.2.1, if_neg nmR2.2.2.2.2.2, if_pos rfl]
end
/-- a reader stands at p, its tokens at a -/
structure Rdr (C : Addr) (H : Hp) (p a : Addr) (T : List Str) (s : RS) : Prop where
  ob : ∃ dx, H p = some (.ins C dx (rdF a s))
  tk : H a = some (.lst (T.map V.str))
  le : s.p ≤ T.length
  few : s.n ≤ 100
  big : T.length ≤ 100000
theorem Rdr.ne {C : Addr} {H : Hp} {p a : Addr} {T : List Str} {s : RS} (R : Rdr C H p a T s) : p ≠ a := by
  obtain ⟨dx, e⟩ := R.ob
  exact ne_of e R.tk (by intro z; cases z)
theorem Rdr.same {C : Addr} {H H' : Hp} {p a : Addr} {T : List Str} {s : RS} (e : Same H H') (R : Rdr C H p a T s) : Rdr C H' p a T s := by
  obtain ⟨dx, h⟩ := R.ob
  exact ⟨⟨dx, e _ _ h⟩, e _ _ R.tk, R.le, R.few, R.big⟩
/-- what the classes say: a reader's, and that of its error -/
structure ClR (K : PySem.W.Frag) (mg : Str → Option Value) (C : Addr) : Prop where
  cl : Cls K C
  nt : NoAttr K C "tokens"
  na : NoAttr K C "at"
  ni : NoAttr K C "instructions"
  nr : NoAttr K C "repeats"
  gl : mg "Reader" = some (.ref C)
abbrev TxtF (P : Program) (w : World) (K : PySem.W.Frag) (mg : Str → Option Value) (base : Heap) (C : Addr) : Prop := OwnF P w K mg base "ValueError" "ValueError.__new__" "ValueError.__init__" [.type "ValueError", .type "Exception", .type "BaseException", .type "object"] "InvalidText" "position" C
/-- the text is refused at a token -/
def BadE (CI : Addr) (E : XK) (p : Addr) (H : Hp) (k : Nat) : Prop := ∀ d H', Kp p H H' → H' d = none → E (.ref CI) (some d) (upd H' d (.xd [("position", .int k)]))
theorem BadE.kp {CI : Addr} {E : XK} {p : Addr} {H H1 : Hp} {k : Nat} (b : BadE CI E p H k) (h : Kp p H H1) : BadE CI E p H1 k := fun d H' h' n => b d H' (h.trans h') n
def sp_reader (C : Addr) : Sp := fun vs H Q _ => ∃ (p dx a : Addr), vs = [.ref p, .ref a] ∧ H p = some (.ins C dx []) ∧ ∀ H', Kp p H H' → H' p = some (.ins C dx (rdF a ⟨0, 0, 0⟩)) → Q .non H'
def sp_has_ended (C : Addr) : Sp := fun vs H Q _ => ∃ (p a : Addr) (T : List Str) (s : RS), vs = [.ref p] ∧ Rdr C H p a T s ∧ Q (.bl (decide (s.p = T.length))) H
def sp_token (C CI : Addr) : Sp := fun vs H Q E => ∃ (p a : Addr) (T : List Str) (s : RS), vs = [.ref p] ∧ Rdr C H p a T s ∧ (∀ t, T[s.p]? = some t → Q (.str t) H) ∧ (T[s.p]? = none → BadE CI E p H s.p)
def sp_read_word (C CI : Addr) : Sp := fun vs H Q E => ∃ (p a : Addr) (T : List Str) (s : RS) (k : Nat), vs = [.ref p, .int (2 - (k : Int))] ∧ k ≤ 2 ∧ Rdr C H p a T s ∧
  (∀ w s1 H', rdW T k s = .ok w s1 → Kp p H H' → Rdr C H' p a T s1 → Q (.str w) H') ∧ (∀ q, rdW T k s = .bad q → BadE CI E p H q)
def sp_read_count (C CI : Addr) : Sp := fun vs H Q E => ∃ (p a : Addr) (T : List Str) (s : RS) (m : Int), vs = [.ref p, .int m] ∧ Rdr C H p a T s ∧ (∀ t ∈ T, t.length ≤ 100000) ∧
  (∀ c s1 H', rdC T m s = .ok c s1 → Kp p H H' → Rdr C H' p a T s1 → Q (.int c) H') ∧ (∀ q, rdC T m s = .bad q → BadE CI E p H q)
def sp_read_bracket (C CI : Addr) : Sp := fun vs H Q E => ∃ (p a : Addr) (T : List Str) (s : RS), vs = [.ref p] ∧ Rdr C H p a T s ∧
  (∀ u s1 H', rdB T s = .ok u s1 → Kp p H H' → Rdr C H' p a T s1 → Q .non H') ∧ (∀ q, rdB T s = .bad q → BadE CI E p H q)
def sp_read_instruction (K : PySem.W.Frag) (C CI : Addr) (k : Nat) : Sp := fun vs H Q E => ∃ (p a : Addr) (T : List Str) (s : RS), vs = [.ref p, .int (3 - (k : Int))] ∧ 0 < k ∧ k ≤ 3 ∧ Rdr C H p a T s ∧ (∀ t ∈ T, t.length ≤ 100000) ∧
  (∀ i s1 v H', rdI T (k - 1) s = .ok i s1 → Kp p H H' → Rdr C H' p a T s1 → NwI K H H' v i → Q v H') ∧ (∀ q, rdI T (k - 1) s = .bad q → BadE CI E p H q)
/-- parse_program, of a text -/
def sp_parse_program (K : PySem.W.Frag) (CI : Addr) : Sp := fun vs H Q E => ∃ t : Str, vs = [.str t] ∧ t.length ≤ 100000 - 2 ∧
  (∀ b s1 D xs H', readT (tksOf t) = .ok b s1 → Same H H' → H D = none → H' D = some (.lst xs) → NwP K (upd H D (.lst [])) H' xs b → Q (.ref D) H') ∧
  (∀ q d H', readT (tksOf t) = .bad q → Same H H' → H' d = none → E (.ref CI) (some d) (upd H' d (.xd [("position", .int q)])))
def sp_count_of : Sp := fun vs H Q _ => ∃ t : Str, vs = [.str t] ∧ t.length ≤ 100000 ∧ ∀ H', Same H H' → Q (match ctOf t with | some c => .int c | none => .non) H'
def sp_is_countZ : Sp := fun vs H Q _ => ∃ z : Int, vs = [.int z] ∧ Q (.bl (decide (z.natAbs ≤ 10 ^ 30))) H
def sp_tokens_of (K : PySem.W.Frag) (k : Nat) : Sp := fun vs H Q _ => ∃ (v : V) (b : List Ins), vs = [v] ∧ PV K H v b ∧ dpP b < k ∧ k ≤ 3 ∧ CtP b ∧ cnP b ≤ 1000 ∧
  ∀ D H', Same H H' → H D = none → H' D = some (.lst ((tkP b).map V.str)) → Q (.ref D) H'
def sp_format_program (K : PySem.W.Frag) : Sp := fun vs H Q _ => ∃ (v : V) (b : List Ins), vs = [v] ∧ PV K H v b ∧ dpP b < 3 ∧ CtP b ∧ cnP b ≤ 1000 ∧ ∀ H', Same H H' → Q (.str (txP b)) H'
def sp__law_text (K : PySem.W.Frag) (k : Nat) : Sp := fun vs H Q _ => ∃ (v : V) (b : List Ins), vs = [v] ∧ PV K H v b ∧ dpP b < k ∧ k ≤ 3 ∧ CtP b ∧ cnP b ≤ 1000 ∧ ∀ H', Same H H' → Q (.str (txP b)) H'
end DR
namespace DR
open PySem PySem.Spec PyProof.Rows L2
/-! [an int for x in a program] -/
/-! rules whose fragment is told: for the inside of comprehensions -/
section
variable {X : Cx}
theorem ix_tupK (K : PySem.W.Frag) (h : X.K = K) : IxR X (rIxT K) := h ▸ ix_tup
end
/-! lists that stay while the pen draws -/
theorem kp_lst {H H' : Hp} {p c F : Addr} {n : Nat} {xs : List V} (pen : PenAt H p c n) (k : Kp p H H') (h : H F = some (.lst xs)) : H' F = some (.lst xs) :=
  k _ _ (pen.dict.elim fun _ e => ne_of h e (by intro z; cases z)) h
end DR
namespace DR
open PySem PySem.Spec PyProof.Rows L2
/-! ### what a program turns: at each place, run from 0 -/
def rsum (f : Int → Int) (s : Int) : Nat → Int → Int
  | 0, _ => 0
  | n + 1, x => rsum f s n x + f (x - n * s)
mutual
def seI : Ins → Int → Int
  | .step _, _ => 0
  | .turn c, x => if x = 0 then c else 0
  | .rep n b, x => rsum (fun y => seP b y) (shP b) n.toNat x
def seP : List Ins → Int → Int
  | [], _ => 0
  | i :: r, x => seI i x + seP r (x - shI i)
end
/-! the counts of repeats are from 0 on, and not too large to be run -/
mutual
def NI : Ins → Prop
  | .step _ => True
  | .turn _ => True
  | .rep n b => 0 ≤ n ∧ NP b
def NP : List Ins → Prop
  | [] => True
  | i :: r => NI i ∧ NP r
end
theorem seP_nil (x : Int) : seP [] x = 0 := by rw [seP]
theorem seP_cons (i : Ins) (r : List Ins) (x : Int) : seP (i :: r) x = seI i x + seP r (x - shI i) := by rw [seP]
theorem seP_app : ∀ (a b : List Ins) (x : Int), seP (a ++ b) x = seP a x + seP b (x - shP a)
  | [], b, x => by rw [List.nil_append, seP_nil, shP_nil, Int.zero_add, Int.sub_zero]
  | i :: r, b, x => by
    rw [List.cons_append, seP_cons, seP_cons, seP_app r b, shP_cons, Int.add_assoc]
    congr 2
    congr 1
    omega
theorem NP_cons (i : Ins) (r : List Ins) : NP (i :: r) = (NI i ∧ NP r) := by rw [NP]
theorem NP_app : ∀ (a b : List Ins), NP a → NP b → NP (a ++ b)
  | [], b, _, h => h
  | i :: r, b, h, h2 => by
    rw [List.cons_append, NP_cons]
    rw [NP_cons] at h
    exact ⟨h.1, NP_app r b h.2 h2⟩
theorem NP_mem : ∀ {b : List Ins} {i : Ins}, NP b → i ∈ b → NI i
  | [], _, _, h => absurd h List.not_mem_nil
  | j :: r, i, w, h => by
    rw [NP_cons] at w
    rcases List.mem_cons.mp h with e | e
    · rw [e]; exact w.1
    · exact NP_mem w.2 e
/-! the same effect, written out -/
mutual
theorem exI_nn : ∀ (i : Ins), NI i → 0 ≤ exI i
  | .step c, _ => by rw [exI]; decide
  | .turn c, _ => by rw [exI]; decide
  | .rep n b, h => by
    rw [NI] at h
    rw [exI]
    exact Int.mul_nonneg h.1 (exP_nn b h.2)
theorem exP_nn : ∀ (b : List Ins), NP b → 0 ≤ exP b
  | [], _ => by rw [exP_nil]; exact Int.le_refl _
  | i :: r, h => by
    rw [NP_cons] at h
    have := exI_nn i h.1
    have := exP_nn r h.2
    rw [exP_cons]
    omega
end
/-! rounds that may be run -/
mutual
def RI (N : Int) : Ins → Prop
  | .step _ => True
  | .turn _ => True
  | .rep n b => n ≤ N ∧ RP N b
def RP (N : Int) : List Ins → Prop
  | [] => True
  | i :: r => RI N i ∧ RP N r
end
theorem RP_cons (N : Int) (i : Ins) (r : List Ins) : RP N (i :: r) = (RI N i ∧ RP N r) := by rw [RP]
theorem RP_mem {N : Int} : ∀ {b : List Ins} {i : Ins}, RP N b → i ∈ b → RI N i
  | [], _, _, h => absurd h List.not_mem_nil
  | j :: r, i, w, h => by
    rw [RP_cons] at w
    rcases List.mem_cons.mp h with e | e
    · rw [e]; exact w.1
    · exact RP_mem w.2 e
theorem RP_app {N : Int} : ∀ (a b : List Ins), RP N a → RP N b → RP N (a ++ b)
  | [], b, _, h => h
  | i :: r, b, h, h2 => by
    rw [List.cons_append, RP_cons]
    rw [RP_cons] at h
    exact ⟨h.1, RP_app r b h.2 h2⟩
/-! ### how far a run goes -/
/-! ### drawn programs, with what their repeats may do -/
structure PrR (b : List Ins) (k N : Nat) (R : Int) : Prop where
  ok : PrOk b k N
  nn : NP b
  rp : RP R b
theorem flat_np : ∀ {b : List Ins} {R : Int}, (∀ i ∈ b, isFlat i) → NP b ∧ RP R b
  | [], _, _ => by rw [NP, RP]; exact ⟨trivial, trivial⟩
  | i :: r, R, h => by
    have h1 := h i List.mem_cons_self
    obtain ⟨a, c⟩ := flat_np (b := r) (R := R) fun j hj => h j (List.mem_cons_of_mem _ hj)
    rw [NP_cons, RP_cons]
    cases i with
    | step _ => rw [NI, RI]; exact ⟨⟨trivial, a⟩, trivial, c⟩
    | turn _ => rw [NI, RI]; exact ⟨⟨trivial, a⟩, trivial, c⟩
    | rep _ _ => exact absurd h1 id
theorem Flat.okR {b : List Ins} {N R : Nat} (h : Flat b N R) (hR : R ≤ 2 ^ 100) (M : Int) : PrR b 0 N M := ⟨h.ok hR, (flat_np (R := M) h.flat).1, (flat_np h.flat).2⟩
theorem PrR.app {b c : List Ins} {k j N M : Nat} {R : Int} (h : PrR b k N R) (h2 : PrR c j M R) : PrR (b ++ c) (max k j) (N + M) R := ⟨h.ok.app h2.ok, NP_app _ _ h.nn h2.nn, RP_app _ _ h.rp h2.rp⟩
theorem PrR.rep {b : List Ins} {k N : Nat} {R : Int} (h : PrR b k N R) (hN : N ≤ 1024) {n : Int} (hn : n.natAbs ≤ 2 ^ 100) (h0 : 0 ≤ n) (h9 : n ≤ R) : PrR [.rep n b] (k + 1) (N + 1) R := by
  refine ⟨h.ok.rep hN hn, ?_, ?_⟩
  · rw [NP_cons, NI, NP]
    exact ⟨⟨h0, h.nn⟩, trivial⟩
  · rw [RP_cons, RI, RP]
    exact ⟨⟨h9, h.rp⟩, trivial⟩
theorem PrR.up {b : List Ins} {k N k' N' : Nat} {R : Int} (h : PrR b k N R) (a : k ≤ k') (c : N ≤ N') : PrR b k' N' R := ⟨h.ok.up a c, h.nn, h.rp⟩
mutual
theorem RI_up {R R' : Int} (h : R ≤ R') : ∀ (i : Ins), RI R i → RI R' i
  | .step _, _ => by rw [RI]; trivial
  | .turn _, _ => by rw [RI]; trivial
  | .rep n b, z => by
    rw [RI] at z ⊢
    exact ⟨Int.le_trans z.1 h, RP_up h b z.2⟩
theorem RP_up {R R' : Int} (h : R ≤ R') : ∀ (b : List Ins), RP R b → RP R' b
  | [], _ => by rw [RP]; trivial
  | i :: r, z => by
    rw [RP_cons] at z ⊢
    exact ⟨RI_up h i z.1, RP_up h r z.2⟩
end
/-- at most so many executed: instructions times the rounds around them -/
theorem ex_bd {R : Nat} (hR : 1 ≤ R) : ∀ (k : Nat) (b : List Ins), dpP b ≤ k → NP b → RP R b → exP b ≤ ((cnP b * R ^ k : Nat) : Int)
  | k, [], _, _, _ => by rw [exP_nil]; omega
  | k, i :: r, hd, hn, hr => by
    rw [dpP_cons] at hd
    rw [NP_cons] at hn
    rw [RP_cons] at hr
    have h2 := ex_bd hR k r (by omega) hn.2 hr.2
    have hp : 1 ≤ R ^ k := Nat.one_le_pow _ _ hR
    have h1 : exI i ≤ ((cnI i * R ^ k : Nat) : Int) := by
      cases i with
      | step c =>
        rw [exI, cnI]
        omega
      | turn c =>
        rw [exI, cnI]
        omega
      | rep n bb =>
        have hd1 : dpP bb + 1 ≤ k := by
          have := hd
          rw [dpI] at this
          omega
        have hn1 := hn.1
        have hr1 := hr.1
        rw [NI] at hn1
        rw [RI] at hr1
        have h3 := ex_bd hR (k - 1) bb (by omega) hn1.2 hr1.2
        rw [exI, cnI]
        have e : R ^ k = R * R ^ (k - 1) := by
          rw [show k = k - 1 + 1 by omega, Nat.pow_succ, Nat.mul_comm]
          rfl
        have h4 : n * exP bb ≤ (R : Int) * ((cnP bb * R ^ (k - 1) : Nat) : Int) := Int.le_trans (Int.mul_le_mul_of_nonneg_right hr1.1 (exP_nn bb hn1.2)) (Int.mul_le_mul_of_nonneg_left h3 (by omega))
        have e2 : (R : Int) * ((cnP bb * R ^ (k - 1) : Nat) : Int) = ((cnP bb * R ^ k : Nat) : Int) := by
          rw [e, ← Int.natCast_mul]
          congr 1
          rw [← Nat.mul_assoc, ← Nat.mul_assoc, Nat.mul_comm R]
        rw [e2] at h4
        have : cnP bb * R ^ k ≤ (cnP bb + 1) * R ^ k := Nat.mul_le_mul_right _ (Nat.le_succ _)
        omega
    rw [exP_cons, cnP_cons, Nat.add_mul]
    omega
termination_by k b => (k, b.length)
/-! ### promises -/
end DR
namespace DR
open PySem PySem.Spec PyProof.Rows L2
/-! ### sums over rounds -/
/-! ### how many ways rounds reach a place -/
def wy : Pol → Int → Int
  | [], d => if d = 0 then 1 else 0
  | r :: rs, d => rsum (fun y => wy rs y) r.2 r.1.toNat d
/-- a term: place, coefficient, rounds -/
structure Tm where
  pl : Int
  co : Int
  rs : Pol
def tv (t : Tm) (x : Int) : Int := t.co * wy t.rs (x - t.pl)
/-! ### the count of pairs -/
def cnt (L G P r : Int) : Nat → Int
  | 0 => 0
  | n + 1 => cnt L G P r n + if L ≤ (n : Int) ∧ (n : Int) ≤ G ∧ P ∣ (n : Int) - r then 1 else 0
end DR
namespace DR
open PySem PySem.Spec PyProof.Rows L2
def RsOk (rs : Pol) : Prop := ∀ r ∈ rs, 1 ≤ r.1 ∧ r.1 ≤ 2 ^ 100 ∧ 1 ≤ r.2 ∧ r.2 ≤ 2 ^ 331
def TermV (K : PySem.W.Frag) (H : Hp) (v : V) (t : Tm) : Prop := ∃ a x, v = .ref a ∧ SqT K H a [.int t.pl, .int t.co, x] ∧ TPol K H x t.rs
abbrev TVs (K : PySem.W.Frag) (H : Hp) : List V → List Tm → Prop := Paired (TermV K H)
section
variable {K : PySem.W.Frag} {H H' : Hp} {v x : V} {t : Tm} {xs ys : List V} {ts us : List Tm}
theorem TermV.tp (e : Tp H H') (h : TermV K H v t) : TermV K H' v t := by
  obtain ⟨a, x, rfl, hs, hx⟩ := h
  exact ⟨a, x, rfl, tp_t e hs, hx.tp e⟩
theorem TVs.tp (e : Tp H H') : ∀ {xs : List V} {ts : List Tm}, TVs K H xs ts → TVs K H' xs ts
  | _, _, .nil => .nil
  | _, _, .cons r q => .cons (r.tp e) (TVs.tp e q)
theorem TVs.app : ∀ {xs : List V} {ts : List Tm}, TVs K H xs ts → TVs K H ys us → TVs K H (xs ++ ys) (ts ++ us)
  | _, _, .nil, h => h
  | _, _, .cons r q, h => .cons r (TVs.app q h)
theorem TVs.len (h : TVs K H xs ts) : xs.length = ts.length := Paired.length h
theorem TVs.get : ∀ {xs : List V} {ts : List Tm} {i : Nat} {x : V}, TVs K H xs ts → xs[i]? = some x → ∃ t, ts[i]? = some t ∧ TermV K H x t
  | _, _, _, _, .nil, e => by simp at e
  | _, _, 0, _, .cons r _, e => by
    simp at e
    subst e
    exact ⟨_, rfl, r⟩
  | _, _, i + 1, x, .cons _ q, e => by
    obtain ⟨t, h1, h2⟩ := TVs.get (i := i) (x := x) q (by simpa using e)
    exact ⟨t, by simpa using h1, h2⟩
end
/-- bounds of a term of a program run from pl -/
structure TOk (k : Nat) (T pl : Int) (t : Tm) : Prop where
  at_ : ((t.pl - pl).natAbs : Int) ≤ T
  co : t.co.natAbs ≤ 2 ^ (100 * k)
  len : t.rs.length + 1 ≤ k
  rs : RsOk t.rs
theorem TOk.up {k k' : Nat} {T T' pl : Int} {t : Tm} (h : TOk k T pl t) (a : k ≤ k') (b : T ≤ T') : TOk k' T' pl t := ⟨Int.le_trans h.at_ b, Nat.le_trans h.co (pow_le2 (by omega)), Nat.le_trans h.len a, h.rs⟩
end DR
/-! ### the least and the greatest place where a sum of terms is not 0 -/
namespace DR
open PySem PySem.Spec PyProof.Rows L2
/-- the greatest and the least place with something left -/
structure Ends1 (p : Int) (F : Int → Int) (lo hi : Int) : Prop where
  atLo : ¬ p ∣ F lo
  atHi : ¬ p ∣ F hi
  below : ∀ x, x < lo → p ∣ F x
  above : ∀ x, hi < x → p ∣ F x
/-! ### groups: rounds, and what is multiplied by them -/
def mv (m : Pol) (f : Int → Int) (x : Int) : Int := (m.map fun t => t.2 * f (x - t.1)).sum
theorem mv_nil (f : Int → Int) (x : Int) : mv [] f x = 0 := rfl
theorem mv_cons (t : Int × Int) (r : Pol) (f : Int → Int) (x : Int) : mv (t :: r) f x = t.2 * f (x - t.1) + mv r f x := by
  unfold mv
  rw [List.map_cons, List.sum_cons]
theorem mv_put {f : Int → Int} {e v : Int} (x : Int) : ∀ {m : Pol}, (m.map (·.1)).Nodup → mv (put m e v) f x = mv m f x + (v - cf m e) * f (x - e)
  | [], _ => by
    rw [put_new (List.not_mem_nil), List.nil_append, mv_cons, mv_nil, cf_nil, Int.sub_zero]
    show v * f (x - e) + 0 = 0 + v * f (x - e)
    rw [Int.add_zero, Int.zero_add]
  | t :: r, n => by
    have nn := List.nodup_cons.mp (show (t.1 :: r.map (·.1)).Nodup from n)
    by_cases q : t.1 = e
    · have : put (t :: r) e v = (t.1, v) :: r := by
        rw [put, if_pos q, q]
      rw [this, mv_cons, mv_cons, cf_cons, if_pos q, cf_out (f := r) (e := e) (by rw [← q]; exact nn.1), q]
      show v * _ + _ = _
      rw [Int.add_zero, Int.sub_mul]
      omega
    · have : put (t :: r) e v = t :: put r e v := by
        rw [put, if_neg q]
      rw [this, mv_cons, mv_cons, mv_put x nn.2, cf_cons, if_neg q, Int.zero_add]
      omega
abbrev Grp := List (Pol × Pol)
def gv (G : Grp) (x : Int) : Int := (G.map fun g => mv g.2 (wy g.1) x).sum
theorem gv_nil (x : Int) : gv [] x = 0 := rfl
theorem gv_cons (g : Pol × Pol) (G : Grp) (x : Int) : gv (g :: G) x = mv g.2 (wy g.1) x + gv G x := by
  unfold gv
  rw [List.map_cons, List.sum_cons]
theorem gv_app (A B : Grp) (x : Int) : gv (A ++ B) x = gv A x + gv B x := by
  unfold gv
  rw [List.map_append, List.sum_append]
/-- what stands under a key -/
def gAt (G : Grp) (r : Pol) : Option Pol := (G.find? fun g => decide (g.1 = r)).map (·.2)
/-- m under r instead of what is there, or behind all -/
def gSet (G : Grp) (r m : Pol) : Grp := if (gAt G r).isSome = true then G.map (fun g => if g.1 = r then (g.1, m) else g) else G ++ [(r, m)]
theorem gAt_cons (g : Pol × Pol) (G : Grp) (r : Pol) : gAt (g :: G) r = if g.1 = r then some g.2 else gAt G r := by
  unfold gAt
  rw [List.find?_cons]
  by_cases e : g.1 = r
  · rw [decide_eq_true e, if_pos e]
    rfl
  · rw [decide_eq_false e, if_neg e]
theorem gAt_none {G : Grp} {r : Pol} (h : gAt G r = none) : r ∉ G.map (·.1) := by
  induction G with
  | nil => exact List.not_mem_nil
  | cons g G ih =>
    rw [gAt_cons] at h
    by_cases e : g.1 = r
    · rw [if_pos e] at h
      cases h
    · rw [if_neg e] at h
      intro z
      rcases List.mem_cons.mp (show r ∈ g.1 :: G.map (·.1) from z) with y | y
      · exact e y.symm
      · exact ih h y
theorem gSet_keys {G : Grp} {r m : Pol} (h : (gAt G r).isSome = true) : (gSet G r m).map (·.1) = G.map (·.1) := by
  unfold gSet
  rw [if_pos h, List.map_map]
  refine List.map_congr_left fun g _ => ?_
  show (if g.1 = r then (g.1, m) else g).1 = g.1
  split <;> rfl
theorem gSet_nodup {G : Grp} {r m : Pol} (n : (G.map (·.1)).Nodup) : ((gSet G r m).map (·.1)).Nodup := by
  cases h : gAt G r with
  | none =>
    have out := gAt_none h
    unfold gSet
    rw [h]
    show ((G ++ [(r, m)]).map (·.1)).Nodup
    rw [List.map_append]
    exact List.nodup_append.mpr ⟨n, List.nodup_cons.mpr ⟨List.not_mem_nil, List.nodup_nil⟩, fun a ha b hb e => by
      cases List.mem_singleton.mp hb
      exact out ((show a = r from e) ▸ ha)⟩
  | some m0 =>
    rw [gSet_keys (by rw [h]; rfl)]
    exact n
/-- what is added by a change -/
theorem gv_set {G : Grp} {r m : Pol} (x : Int) (n : (G.map (·.1)).Nodup) : gv (gSet G r m) x = gv G x + (mv m (wy r) x - mv ((gAt G r).getD []) (wy r) x) := by
  cases h : gAt G r with
  | none =>
    unfold gSet
    rw [h]
    show gv (G ++ [(r, m)]) x = _
    rw [gv_app, gv_cons, gv_nil]
    show _ = gv G x + (mv m (wy r) x - mv [] (wy r) x)
    rw [mv_nil]
    show gv G x + (mv m (wy r) x + 0) = _
    omega
  | some m0 =>
    unfold gSet
    rw [h]
    show gv (G.map fun g => if g.1 = r then (g.1, m) else g) x = gv G x + (mv m (wy r) x - mv m0 (wy r) x)
    induction G with
    | nil => cases h
    | cons g G ih =>
      have nn := List.nodup_cons.mp (show (g.1 :: G.map (·.1)).Nodup from n)
      rw [gAt_cons] at h
      rw [List.map_cons, gv_cons, gv_cons]
      by_cases e : g.1 = r
      · rw [if_pos e] at h ⊢
        have rest : (G.map fun g => if g.1 = r then (g.1, m) else g) = G := by
          have : ∀ u ∈ G, (if u.1 = r then (u.1, m) else u) = id u := fun u hu => if_neg fun z => nn.1 (by rw [e, ← z]; exact List.mem_map_of_mem hu)
          rw [List.map_congr_left this, List.map_id]
        rw [rest, ← Option.some.inj h, e]
        show mv m (wy r) x + gv G x = mv g.2 (wy r) x + gv G x + (mv m (wy r) x - mv g.2 (wy r) x)
        omega
      · rw [if_neg e] at h ⊢
        rw [ih nn.2 h]
        omega
/-! without what the prime divides -/
/-! one stride less -/
def dropS (s : Int) : Pol → Pol
  | [] => []
  | r :: rs => if r.2 = s then rs else r :: dropS s rs
/-- how often a stride stands there -/
def sct (s : Int) (rs : Pol) : Nat := (rs.map (·.2)).count s
theorem sct_drop (s u : Int) : ∀ rs : Pol, sct u (dropS s rs) = if u = s then sct u rs - 1 else sct u rs
  | [] => by
    show 0 = if u = s then 0 - 1 else 0
    split <;> rfl
  | r :: rs => by
    have ih := sct_drop s u rs
    unfold dropS
    unfold sct at ih ⊢
    by_cases e : r.2 = s
    · rw [if_pos e, List.map_cons, List.count_cons, e]
      by_cases z : u = s
      · rw [if_pos z, z, if_pos (by rw [beq_self_eq_true])]
        omega
      · rw [if_neg z, if_neg (fun y => z (eq_of_beq y).symm)]
        omega
    · rw [if_neg e, List.map_cons, List.count_cons, ih, List.map_cons, List.count_cons]
      by_cases z : u = s
      · rw [if_pos z, if_pos z, z, if_neg (fun y => e (eq_of_beq y))]
        omega
      · rw [if_neg z, if_neg z]
theorem dropS_len (s : Int) (rs : Pol) : (dropS s rs).length ≤ rs.length := by
  induction rs with
  | nil => exact Nat.le_refl _
  | cons r rs ih =>
    unfold dropS
    split
    · exact Nat.le_succ _
    · exact Nat.succ_le_succ ih
theorem dropS_sub (s : Int) : ∀ (rs : Pol), ∀ r ∈ dropS s rs, r ∈ rs
  | [], _, h => h
  | t :: rs, r, h => by
    unfold dropS at h
    split at h
    · exact List.mem_cons_of_mem t h
    · rcases List.mem_cons.mp h with e | h
      · exact e ▸ List.mem_cons_self
      · exact List.mem_cons_of_mem t (dropS_sub s rs r h)
end DR
namespace PySem.SeqAt
open AutoSeq1 (wpAny_loadPart')
open MeetsSeq MeetsSeq2 MeetsSeq3
end PySem.SeqAt
namespace L2
open PySem PySem.Spec PyProof.Rows PySem.W
end L2
namespace DR
open PySem PySem.Spec PyProof.Rows L2
/-! ### plain tuples -/
def PlT (H : Hp) (a : Addr) (xs : List V) : Prop := ∃ o, o.dict = none ∧ H a = some (.frz o (.tup xs))
theorem PlT.sq {K : PySem.W.Frag} {H : Hp} {a : Addr} {xs : List V} (h : PlT H a xs) : SqT K H a xs := h.elim fun o z => .inl (.inr ⟨o, z.2⟩)
theorem PlT.tp {H H' : Hp} {a : Addr} {xs : List V} (e : Tp H H') (h : PlT H a xs) : PlT H' a xs := h.elim fun o z => ⟨o, z.1, e.frz _ _ _ z.2⟩
def TPolP (K : PySem.W.Frag) (H : Hp) (v : V) (f : Pol) : Prop := ∃ a xs, v = .ref a ∧ PlT H a xs ∧ Prs K H xs f
def TEffP (K : PySem.W.Frag) (H : Hp) (v : V) (f : Pol) (n : Int) : Prop := ∃ a x, v = .ref a ∧ SqT K H a [x, .int n] ∧ TPolP K H x f
section
variable {K : PySem.W.Frag} {H H' : Hp} {v : V} {f : Pol} {n : Int}
theorem TPolP.tp (e : Tp H H') (h : TPolP K H v f) : TPolP K H' v f := by
  obtain ⟨a, xs, rfl, hs, hp⟩ := h
  exact ⟨a, xs, rfl, hs.tp e, Prs.tp e hp⟩
theorem TPolP.same (e : Same H H') (h : TPolP K H v f) : TPolP K H' v f := h.tp (Same.tp e)
theorem TEffP.tp (e : Tp H H') (h : TEffP K H v f n) : TEffP K H' v f n := by
  obtain ⟨a, x, rfl, hs, hp⟩ := h
  exact ⟨a, x, rfl, tp_t e hs, hp.tp e⟩
theorem TEffP.same (e : Same H H') (h : TEffP K H v f n) : TEffP K H' v f n := h.tp (Same.tp e)
end
theorem Cal.wk {P : Program} {w : World} {K : PySem.W.Frag} {mg : Str → Option Value} {base : Heap} {k : Nat} {x : Str} {sp sp' : Sp} (c : Cal P w K mg base k x sp) (h : ∀ vs H Q E, sp' vs H Q E → sp vs H Q E) : Cal P w K mg base k x sp' :=
  c.ex.elim fun f z => z.elim fun fd y => y.elim fun ps q => ⟨f, fd, ps, q.1.imp h, q.2⟩
end DR
namespace DR
open PySem PySem.Spec PyProof.Rows L2
/-! ### the laws' own terms: factor, offset, rounds -/
def LTermV (K : PySem.W.Frag) (H : Hp) (v : V) (t : Tm) : Prop := ∃ a x, v = .ref a ∧ SqT K H a [.int t.co, .int t.pl, x] ∧ TPol K H x t.rs
abbrev LTVs (K : PySem.W.Frag) (H : Hp) : List V → List Tm → Prop := Paired (LTermV K H)
section
variable {K : PySem.W.Frag} {H H' : Hp} {v x : V} {t : Tm} {xs ys : List V} {ts us : List Tm}
theorem LTermV.tp (e : Tp H H') (h : LTermV K H v t) : LTermV K H' v t := by
  obtain ⟨a, x, rfl, hs, hx⟩ := h
  exact ⟨a, x, rfl, tp_t e hs, hx.tp e⟩
theorem LTVs.tp (e : Tp H H') : ∀ {xs : List V} {ts : List Tm}, LTVs K H xs ts → LTVs K H' xs ts
  | _, _, .nil => .nil
  | _, _, .cons r q => .cons (r.tp e) (LTVs.tp e q)
theorem LTVs.app : ∀ {xs : List V} {ts : List Tm}, LTVs K H xs ts → LTVs K H ys us → LTVs K H (xs ++ ys) (ts ++ us)
  | _, _, .nil, h => h
  | _, _, .cons r q, h => .cons r (LTVs.app q h)
theorem LTVs.len (h : LTVs K H xs ts) : xs.length = ts.length := Paired.length h
theorem LTVs.get : ∀ {xs : List V} {ts : List Tm} {i : Nat} {x : V}, LTVs K H xs ts → xs[i]? = some x → ∃ t, ts[i]? = some t ∧ LTermV K H x t
  | _, _, _, _, .nil, e => by simp at e
  | _, _, 0, _, .cons r _, e => by
    simp at e
    subst e
    exact ⟨_, rfl, r⟩
  | _, _, i + 1, x, .cons _ q, e => by
    obtain ⟨t, h1, h2⟩ := LTVs.get (i := i) (x := x) q (by simpa using e)
    exact ⟨t, by simpa using h1, h2⟩
def tmD (t : Tm) : PyData := .tuple [.int t.co, .int t.pl, pd t.rs]
theorem LTermV.dp (h : LTermV K H v t) : Dp K H v (tmD t) := by
  obtain ⟨a, x, rfl, hs, hx⟩ := h
  exact .tup hs (.cons (.int _) (.cons (.int _) (.cons hx.dp .nil)))
theorem LTVs.dp : ∀ {xs : List V} {ts : List Tm}, LTVs K H xs ts → DpAll K H xs (ts.map tmD)
  | _, _, .nil => .nil
  | _, _, .cons r q => .cons r.dp (LTVs.dp q)
end
end DR
namespace DR
open PySem PySem.Spec PyProof.Rows L2
/-! ### steps times a factor; a program taken back -/
mutual
def CI (M : Nat) : Ins → Prop
  | .step c => c.natAbs ≤ M
  | .turn c => c.natAbs ≤ M
  | .rep _ b => CP M b
def CP (M : Nat) : List Ins → Prop
  | [] => True
  | i :: r => CI M i ∧ CP M r
end
theorem CP_cons (M : Nat) (i : Ins) (r : List Ins) : CP M (i :: r) = (CI M i ∧ CP M r) := by rw [CP]
theorem CP_app {M : Nat} : ∀ {a b : List Ins}, CP M a → CP M b → CP M (a ++ b)
  | [], b, _, h => h
  | i :: r, b, h, h2 => by
    rw [List.cons_append, CP_cons]
    rw [CP_cons] at h
    exact ⟨h.1, CP_app h.2 h2⟩
theorem flat_cp {N R : Nat} : ∀ {b : List Ins}, Flat b N R → CP R b
  | [], _ => by rw [CP]; trivial
  | i :: r, h => by
    rw [CP_cons]
    refine ⟨?_, flat_cp (b := r) ⟨Nat.le_trans (Nat.le_succ _) h.len, fun j hj => h.flat j (List.mem_cons_of_mem _ hj), fun j hj => h.cnt j (List.mem_cons_of_mem _ hj)⟩⟩
    have h1 := h.flat i List.mem_cons_self
    have h2 := h.cnt i List.mem_cons_self
    cases i with
    | step c => rw [CI]; exact h2
    | turn c => rw [CI]; exact h2
    | rep n b => exact absurd h1 id
theorem er_inS {H Hc H3 : Hp} {D : Addr} {ys : List V} (k : Same H Hc) (hD : Hc D = some (.lst ys)) : Same (er Hc H3) (er1 D (er H H3)) := fun b o e => by
  obtain ⟨h1, h2⟩ := er_at e
  exact er1_of (fun z => h2 ys (z ▸ hD)) (er_of h1 fun xs z => h2 xs (k _ _ z))
theorem er1_sameS {D : Addr} {H H2 H3 : Hp} (s : Same H2 H3) : Same (er1 D (er H H2)) (er1 D (er H H3)) := fun b o e => by
  obtain ⟨h1, h2⟩ := er1_at e
  exact er1_of h1 (er_same s _ _ h2)
theorem er1_updS {D : Addr} {H H2 : Hp} {o : HO} : Same (er1 D (er H H2)) (er1 D (er H (upd H2 D o))) := fun b u e => by
  obtain ⟨h1, h2⟩ := er1_at e
  obtain ⟨h3, h4⟩ := er_at h2
  exact er1_of h1 (er_of (by rw [upd_ne h1]; exact h3) h4)
end DR
namespace DR
open PySem PySem.Spec PyProof.Rows L2
/-! ### programs and effects -/
theorem TEff.sm {K : PySem.W.Frag} {H H' : Hp} {v : V} {f : Pol} {n : Int} (s : Same H H') (h : TEff K H v f n) : TEff K H' v f n := h.tp (Same.tp s)
theorem TEff.sh {K : PySem.W.Frag} {H : Hp} {v : V} {f : Pol} {m n : Int} (e : m = n) (h : TEff K H v f m) : TEff K H v f n := e ▸ h
end DR
/-! ### tuple(d.items()) -/
/-! ### dicts whose keys are tuples of any depth -/
namespace DR
open PySem PySem.Spec PyProof.Rows L2
mutual
/-- what is known of a value says that it is this key -/
inductive NkV (K : PySem.W.Frag) (H : Hp) : V → NestedKey → Prop
  | num (i : Int) : NkV K H (.int i) (.num i)
  | txt (x : Str) : NkV K H (.str x) (.text x)
  | row {a : Addr} {xs : List V} {ks : List NestedKey} (place : SqT K H a xs) (each : NkVs K H xs ks) : NkV K H (.ref a) (.tup ks)
inductive NkVs (K : PySem.W.Frag) (H : Hp) : List V → List NestedKey → Prop
  | nil : NkVs K H [] []
  | cons {x : V} {k : NestedKey} {xs : List V} {ks : List NestedKey} (one : NkV K H x k) (rest : NkVs K H xs ks) : NkVs K H (x :: xs) (k :: ks)
end
/-- tuples stay, whatever else is let go or taken -/
def Tq (H H' : Hp) : Prop := ∀ (K : PySem.W.Frag) (a : Addr) (xs : List V), SqT K H a xs → SqT K H' a xs
theorem Tp.tq {H H' : Hp} (t : Tp H H') : Tq H H' := fun _ _ _ h => tp_t t h
theorem Tq.refl (H : Hp) : Tq H H := fun _ _ _ h => h
theorem Tq.trans {H H1 H2 : Hp} (s : Tq H H1) (t : Tq H1 H2) : Tq H H2 := fun K a xs h => t K a xs (s K a xs h)
mutual
theorem NkV.tq {K : PySem.W.Frag} {H H' : Hp} (t : Tq H H') : ∀ {v : V} {k : NestedKey}, NkV K H v k → NkV K H' v k
  | _, _, .num i => .num i
  | _, _, .txt x => .txt x
  | _, _, .row place each => .row (t _ _ _ place) (NkVs.tq t each)
theorem NkVs.tq {K : PySem.W.Frag} {H H' : Hp} (t : Tq H H') : ∀ {xs : List V} {ks : List NestedKey}, NkVs K H xs ks → NkVs K H' xs ks
  | _, _, .nil => .nil
  | _, _, .cons one rest => .cons (one.tq t) (rest.tq t)
end
/-! the table: each key, where its tuple stands, and what is kept under it -/
abbrev NkT := List (NestedKey × Addr × V)
def valN (T : NkT) (k : NestedKey) : Option V := (T.find? fun p => decide (p.1 = k)).map (·.2.2)
def setN (T : NkT) (k : NestedKey) (b : Addr) (v : V) : NkT := if (valN T k).isSome = true then T.map (fun p => if p.1 = k then (p.1, p.2.1, v) else p) else T ++ [(k, b, v)]
def nkEntry (w : World) (q : NestedKey × Addr × Value) : DictEntry := ⟨q.1.hash w, .ref q.2.1, q.2.2⟩
def NkRel (p : NestedKey × Addr × V) (q : NestedKey × Addr × Value) : Prop := p.1 = q.1 ∧ p.2.1 = q.2.1 ∧ RelV p.2.2 q.2.2
/-- its one object -/
def nkRaw (w : World) (a : Addr) (T : NkT) (h : Heap) : Prop :=
  T.length ≤ sizeLine ∧ (a == sysModules) = false ∧ ∃ qs, Paired NkRel T qs ∧ (qs.map (·.1)).Nodup ∧ ∃ o es ep, h.get? a = some o ∧ o.ExactDict ∧ o.data = .dict es ep ∧ es.toList = qs.map (nkEntry w)
def nkO (w : World) (a : Addr) (T : NkT) : HO := .ext (nkRaw w a T)
/-- a key that this law's programs can make -/
def KeyOk (K : PySem.W.Frag) (H : Hp) (b : Addr) (k : NestedKey) : Prop := NkV K H (.ref b) k ∧ k.depth ≤ 8
theorem KeyOk.tq {K : PySem.W.Frag} {H H' : Hp} {b : Addr} {k : NestedKey} (t : Tq H H') (h : KeyOk K H b k) : KeyOk K H' b k := ⟨h.1.tq t, h.2⟩
def KeysOk (K : PySem.W.Frag) (H : Hp) (T : NkT) : Prop := ∀ p ∈ T, KeyOk K H p.2.1 p.1
theorem KeysOk.tq {K : PySem.W.Frag} {H H' : Hp} {T : NkT} (t : Tq H H') (h : KeysOk K H T) : KeysOk K H' T := fun p m => (h p m).tq t
theorem KeysOk.set {K : PySem.W.Frag} {H : Hp} {T : NkT} {k : NestedKey} {b : Addr} {v : V} (h : KeysOk K H T) (hb : KeyOk K H b k) : KeysOk K H (setN T k b v) := fun p m => by
  unfold setN at m
  split at m
  · obtain ⟨q, hq, rfl⟩ := List.mem_map.mp m
    have old := h q hq
    split
    · exact old
    · exact old
  · rcases List.mem_append.mp m with m | m
    · exact h p m
    · cases List.mem_singleton.mp m
      exact hb
end DR
/-! ### what a program does with dicts whose keys are nested: d[k], k in d, d[k] = v, d.get, d.setdefault, truth, walks -/
/-! ### for k in a dict whose keys are nested -/
namespace DR
open PySem PySem.Spec PyProof.Rows L2
theorem tq_frz {H : Hp} {d : Addr} {o : Obj} {φ : Heap → Prop} {u : HO} (h : H d = some (.frz o (.ext φ))) : Tq H (upd H d u) := fun K a xs q => by
  rcases q with (q | ⟨o', q⟩) | q
  · exact .inl (.inl (by rw [upd_ne (ne_of q h fun z => nomatch z)]; exact q))
  · exact .inl (.inr ⟨o', by rw [upd_ne (ne_of q h fun z => nomatch z)]; exact q⟩)
  · exact .inr q
end DR
/-! ### groups as a dict from rounds to dicts -/
namespace DR
open PySem PySem.Spec PyProof.Rows L2
def nkPr (t : Int × Int) : NestedKey := .tup [.num t.1, .num t.2]
def nkPol (f : Pol) : NestedKey := .tup (f.map nkPr)
theorem nkPol_depth (f : Pol) : (nkPol f).depth ≤ 2 := by
  have : ∀ f : Pol, NestedKey.depthAll (f.map nkPr) ≤ 1 := fun f => by
    induction f with
    | nil => exact Nat.zero_le _
    | cons t f ih =>
      show max (nkPr t).depth (NestedKey.depthAll (f.map nkPr)) ≤ 1
      have : (nkPr t).depth = 1 := rfl
      omega
  show NestedKey.depthAll (f.map nkPr) + 1 ≤ 2
  have := this f
  omega
theorem prs_nk {K : PySem.W.Frag} {H : Hp} : ∀ {xs : List V} {f : Pol}, Prs K H xs f → NkVs K H xs (f.map nkPr)
  | _, _, .nil => .nil
  | _, _, .cons one rest => by
    obtain ⟨a, rfl, ha⟩ := one
    exact .cons (.row ha (.cons (.num _) (.cons (.num _) .nil))) (prs_nk rest)
theorem TPol.key {K : PySem.W.Frag} {H : Hp} {b : Addr} {f : Pol} (h : TPol K H (.ref b) f) : KeyOk K H b (nkPol f) := by
  obtain ⟨a, xs, e, ha, hP⟩ := h
  cases e
  exact ⟨.row ha (prs_nk hP), by have := nkPol_depth f; omega⟩
theorem IsPr.tq {K : PySem.W.Frag} {H H' : Hp} {x : V} {t : Int × Int} (q : Tq H H') (h : IsPr K H x t) : IsPr K H' x t := h.elim fun a z => ⟨a, z.1, q _ _ _ z.2⟩
theorem Prs.tq {K : PySem.W.Frag} {H H' : Hp} (q : Tq H H') : ∀ {xs : List V} {f : Pol}, Prs K H xs f → Prs K H' xs f
  | _, _, .nil => .nil
  | _, _, .cons r s => .cons (r.tq q) (Prs.tq q s)
theorem TPol.tq {K : PySem.W.Frag} {H H' : Hp} {v : V} {f : Pol} (q : Tq H H') (h : TPol K H v f) : TPol K H' v f := by
  obtain ⟨a, xs, rfl, ha, hP⟩ := h
  exact ⟨a, xs, rfl, q _ _ _ ha, Prs.tq q hP⟩
/-- an entry: the rounds' tuple, and a dict of places -/
structure GE (K : PySem.W.Frag) (H0 H : Hp) (p : NestedKey × Addr × V) (g : Pol × Pol) : Prop where
  key : p.1 = nkPol g.1
  rounds : TPol K H (.ref p.2.1) g.1
  sums : ∃ d, p.2.2 = .ref d ∧ H d = some (.dK (kvOf g.2)) ∧ H0 d = none
/-- all entries; no dict stands under two keys -/
structure GT (K : PySem.W.Frag) (H0 H : Hp) (T : NkT) (G : Grp) : Prop where
  each : Paired (GE K H0 H) T G
  apart : (T.map (·.2.2)).Nodup
def noH : Hp := fun _ => none
section
variable {K : PySem.W.Frag} {H0 H H' : Hp} {T : NkT} {G : Grp} {r m : Pol} {b d : Addr}
theorem GT.keys (h : GT K H0 H T G) : KeysOk K H T := fun p mem => by
  obtain ⟨i, hi⟩ := List.mem_iff_getElem?.mp mem
  obtain ⟨g, _, hg⟩ := LiI.paired_get h.each hi
  have := hg.rounds.key
  rw [← hg.key] at this
  exact this
theorem GT.len (h : GT K H0 H T G) : T.length = G.length := Paired.length h.each
theorem GE.same {p : NestedKey × Addr × V} {g : Pol × Pol} (s : Same H H') (h : GE K H0 H p g) : GE K H0 H' p g := by
  obtain ⟨e, t, d, h1, h2, h3⟩ := h
  exact ⟨e, t.tp (Same.tp s), d, h1, s _ _ h2, h3⟩
theorem GT.same (s : Same H H') (h : GT K H0 H T G) : GT K H0 H' T G := ⟨Paired.mapP h.each fun _ _ e => e.same s, h.apart⟩
theorem GT.any (h : GT K H0 H T G) : GT K noH H T G := ⟨Paired.mapP h.each fun _ _ e => ⟨e.key, e.rounds, e.sums.elim fun d z => ⟨d, z.1, z.2.1, rfl⟩⟩, h.apart⟩
/-- what is no dict of ints changes -/
theorem GT.other {a : Addr} {o u : HO} (ha : H a = some o) (n : ∀ kvs, o ≠ .dK kvs) (q : Tq H (upd H a u)) (h : GT K H0 H T G) : GT K H0 (upd H a u) T G := by
  refine ⟨Paired.mapP h.each fun p g e => ?_, h.apart⟩
  obtain ⟨e1, e2, d, h1, h2, h3⟩ := e
  exact ⟨e1, e2.tq q, d, h1, by rw [upd_ne (ne_of h2 ha fun z => n _ z.symm)]; exact h2, h3⟩
theorem map_off {G : Grp} {u : Pol} (n : r ∉ G.map (·.1)) : (G.map fun g => if g.1 = r then (g.1, u) else g) = G := by
  have : ∀ g ∈ G, (if g.1 = r then (g.1, u) else g) = id g := fun g hg => if_neg fun (z : g.1 = r) => n (z ▸ List.mem_map_of_mem hg)
  rw [List.map_congr_left this, List.map_id]
end
/-- a dict of groups -/
def GD (w : World) (K : PySem.W.Frag) (H : Hp) (a : Addr) (G : Grp) : Prop := ∃ T, H a = some (nkO w a T) ∧ GT K noH H T G
theorem GD.same {w : World} {K : PySem.W.Frag} {H H' : Hp} {a : Addr} {G : Grp} (s : Same H H') (h : GD w K H a G) : GD w K H' a G := by
  obtain ⟨T, h1, h2⟩ := h
  exact ⟨T, s _ _ h1, h2.same s⟩
end DR
/-! ### list.count of ints, list.remove of a pair -/
/-! ### {k: v for k in a dict of ints if ..}, the dict locked -/
namespace DR
open PySem PySem.Spec PyProof.Rows L2
theorem mem_le_sum {x : Nat} : ∀ {l : List Nat}, x ∈ l → x ≤ l.sum
  | y :: r, h => by
    rw [List.sum_cons]
    rcases List.mem_cons.mp h with e | h
    · omega
    · have := mem_le_sum h
      omega
theorem gAt_of {G : Grp} (n : (G.map (·.1)).Nodup) {g : Pol × Pol} (h : g ∈ G) : gAt G g.1 = some g.2 := by
  induction G with
  | nil => cases h
  | cons u r ih =>
    have nn := List.nodup_cons.mp (show (u.1 :: r.map (·.1)).Nodup from n)
    rw [gAt_cons]
    rcases List.mem_cons.mp h with e | h
    · rw [e, if_pos rfl]
    · rw [if_neg fun (z : u.1 = g.1) => nn.1 (z ▸ List.mem_map_of_mem h), ih nn.2 h]
theorem GT.free {K : PySem.W.Frag} {H0 H : Hp} {T : NkT} {G : Grp} {a : Addr} {o : Obj} {φ : Heap → Prop} {u : HO} (ha : H a = some (.frz o (.ext φ))) (h : GT K H0 H T G) : GT K H0 (upd H a u) T G := h.other ha (fun _ z => nomatch z) (tq_frz ha)
end DR
/-! ### terms gathered into groups -/
namespace DR
open PySem PySem.Spec PyProof.Rows L2
def gtot (G : Grp) : Nat := (G.map fun g => g.2.length).sum
theorem gtot_cons (g : Pol × Pol) (G : Grp) : gtot (g :: G) = g.2.length + gtot G := by
  unfold gtot
  rw [List.map_cons, List.sum_cons]
theorem gtot_app (A B : Grp) : gtot (A ++ B) = gtot A + gtot B := by
  unfold gtot
  rw [List.map_append, List.sum_append]
theorem gtot_map {r m m0 : Pol} : ∀ {G : Grp}, (G.map (·.1)).Nodup → gAt G r = some m0 → gtot (G.map fun g => if g.1 = r then (g.1, m) else g) + m0.length = gtot G + m.length
  | [], _, h => by cases h
  | g :: G, n, h => by
    have nn := List.nodup_cons.mp (show (g.1 :: G.map (·.1)).Nodup from n)
    rw [gAt_cons] at h
    rw [List.map_cons, gtot_cons, gtot_cons]
    by_cases e : g.1 = r
    · rw [if_pos e] at h ⊢
      rw [map_off (by rw [← e]; exact nn.1), ← Option.some.inj h]
      show m.length + gtot G + g.2.length = _
      omega
    · rw [if_neg e] at h ⊢
      have := gtot_map (m := m) nn.2 h
      omega
theorem gtot_set {G : Grp} {r m : Pol} (n : (G.map (·.1)).Nodup) : gtot (gSet G r m) + ((gAt G r).getD []).length = gtot G + m.length := by
  cases h : gAt G r with
  | none =>
    unfold gSet
    rw [h]
    show gtot (G ++ [(r, m)]) + 0 = _
    rw [gtot_app, gtot_cons]
    show gtot G + (m.length + 0) + 0 = _
    omega
  | some m0 =>
    unfold gSet
    rw [h]
    exact gtot_map n h
theorem gSet_len {G : Grp} {r m : Pol} : (gSet G r m).length ≤ G.length + 1 := by
  unfold gSet
  split
  · rw [List.length_map]
    exact Nat.le_succ _
  · rw [List.length_append]
    exact Nat.le_refl _
theorem mem_gSet {G : Grp} {r m : Pol} {g : Pol × Pol} (h : g ∈ gSet G r m) : g ∈ G ∨ g = (r, m) := by
  unfold gSet at h
  split at h
  · obtain ⟨u, hu, rfl⟩ := List.mem_map.mp h
    split
    · next e =>
      rw [e]
      exact .inr rfl
    · exact .inl hu
  · rcases List.mem_append.mp h with h | h
    · exact .inl h
    · exact .inr (List.mem_singleton.mp h)
/-- groups while they are gathered -/
structure GI (N M : Nat) (R : Pol → Prop) (G : Grp) : Prop where
  nd : (G.map (·.1)).Nodup
  sums : ∀ g ∈ G, (g.2.map (·.1)).Nodup
  total : gtot G ≤ N
  many : G.length ≤ M
  keys : ∀ g ∈ G, R g.1
theorem GI.nil {R : Pol → Prop} : GI 0 0 R [] := ⟨List.nodup_nil, fun _ h => absurd h List.not_mem_nil, Nat.le_refl _, Nat.le_refl _, fun _ h => absurd h List.not_mem_nil⟩
/-- a key for what comes -/
theorem GI.key {N M : Nat} {R : Pol → Prop} {G : Grp} {r : Pol} (h : GI N M R G) (hr : R r) (no : gAt G r = none) : GI N (M + 1) R (gSet G r []) ∧ gAt (gSet G r []) r = some [] ∧ ∀ x, gv (gSet G r []) x = gv G x := by
  have t := gtot_set (m := []) (r := r) h.nd
  have l := gSet_len (G := G) (r := r) (m := [])
  have a := h.total
  have b := h.many
  refine ⟨⟨gSet_nodup h.nd, fun g hg => ?_, ?_, by omega, fun g hg => ?_⟩, ?_, fun x => ?_⟩
  · rcases mem_gSet hg with m | rfl
    · exact h.sums g m
    · exact List.nodup_nil
  · have : ([] : Pol).length = 0 := rfl
    omega
  · rcases mem_gSet hg with m | rfl
    · exact h.keys g m
    · exact hr
  · have n := gSet_nodup (r := r) (m := []) h.nd
    refine gAt_of n (g := (r, [])) ?_
    unfold gSet
    rw [no]
    exact List.mem_append_right _ (List.mem_singleton.mpr rfl)
  · rw [gv_set x h.nd, no]
    show gv G x + (mv [] _ x - mv [] _ x) = _
    omega
/-- one place of one group changes -/
theorem GI.turn {N M : Nat} {R : Pol → Prop} {G : Grp} {r m : Pol} (h : GI N M R G) (at_ : gAt G r = some m) (e c : Int) : GI (N + 1) M R (gSet G r (put m e (cf m e + c))) ∧ gAt (gSet G r (put m e (cf m e + c))) r = some (put m e (cf m e + c)) ∧ ∀ x, gv (gSet G r (put m e (cf m e + c))) x = gv G x + c * wy r (x - e) := by
  obtain ⟨g0, hg0, e1, e2⟩ : ∃ g ∈ G, g.1 = r ∧ g.2 = m := by
    unfold gAt at at_
    obtain ⟨g, hg, e⟩ := Option.map_eq_some_iff.mp at_
    exact ⟨g, List.mem_of_find?_eq_some hg, of_decide_eq_true (List.find?_some (p := fun (g : Pol × Pol) => decide (g.1 = r)) hg), e⟩
  have mn : (m.map (·.1)).Nodup := e2 ▸ h.sums g0 hg0
  have t := gtot_set (m := put m e (cf m e + c)) (r := r) h.nd
  rw [at_] at t
  have pl := put_len m e (cf m e + c)
  have keys := gSet_keys (m := put m e (cf m e + c)) (show (gAt G r).isSome = true by rw [at_]; rfl)
  have many : (gSet G r (put m e (cf m e + c))).length = G.length := by
    have := congrArg List.length keys
    rwa [List.length_map, List.length_map] at this
  have a := h.total
  have b := h.many
  have t : gtot (gSet G r (put m e (cf m e + c))) + m.length = gtot G + (put m e (cf m e + c)).length := t
  refine ⟨⟨gSet_nodup h.nd, fun g hg => ?_, by omega, by omega, fun g hg => ?_⟩, ?_, fun x => ?_⟩
  · rcases mem_gSet hg with q | rfl
    · exact h.sums g q
    · exact put_nodup _ _ _ mn
  · rcases mem_gSet hg with q | rfl
    · exact h.keys g q
    · exact e1 ▸ h.keys g0 hg0
  · refine gAt_of (gSet_nodup h.nd) (g := (r, _)) ?_
    unfold gSet
    rw [at_]
    exact List.mem_map.mpr ⟨g0, hg0, by rw [if_pos e1, e1]⟩
  · rw [gv_set x h.nd, at_]
    show gv G x + (mv (put m e (cf m e + c)) (wy r) x - mv m (wy r) x) = _
    rw [mv_put x mn, show cf m e + c - cf m e = c by omega]
    omega
theorem gAt_mem {G : Grp} {r m : Pol} (h : gAt G r = some m) : ∃ g ∈ G, g.1 = r ∧ g.2 = m := by
  unfold gAt at h
  obtain ⟨g, hg, e⟩ := Option.map_eq_some_iff.mp h
  exact ⟨g, List.mem_of_find?_eq_some hg, of_decide_eq_true (List.find?_some (p := fun (g : Pol × Pol) => decide (g.1 = r)) hg), e⟩
theorem GI.here {N M : Nat} {R : Pol → Prop} {G : Grp} {r m : Pol} (h : GI N M R G) (at_ : gAt G r = some m) : (m.map (·.1)).Nodup ∧ m.length ≤ N := by
  obtain ⟨g, hg, _, e⟩ := gAt_mem at_
  refine ⟨e ▸ h.sums g hg, ?_⟩
  have h1 := h.total
  have h2 : g.2.length ≤ gtot G := mem_le_sum (List.mem_map_of_mem (f := fun g : Pol × Pol => g.2.length) hg)
  rw [e] at h2
  omega
end DR
namespace DR
open PySem PySem.Spec PyProof.Rows L2
/-! ### one unit more, and the length -/
/-- the four unit effects -/
def Units4 (K : PySem.W.Frag) (H : Hp) (p : Int) (xs : List V) : Prop := ∃ a b c d, xs = [a, b, c, d] ∧ TEff K H a [] 1 ∧ TEff K H b [] (-1) ∧ TEff K H c [(0, 1)] 0 ∧ TEff K H d [(0, p - 1)] 0
theorem Units4.tp {K : PySem.W.Frag} {H H' : Hp} {p : Int} {xs : List V} (t : Tp H H') (h : Units4 K H p xs) : Units4 K H' p xs := by
  obtain ⟨a, b, c, d, e, h1, h2, h3, h4⟩ := h
  exact ⟨a, b, c, d, e, h1.tp t, h2.tp t, h3.tp t, h4.tp t⟩
theorem Units4.each {K : PySem.W.Frag} {H : Hp} {p : Int} {xs : List V} {j : Nat} {x : V} (h : Units4 K H p xs) (hx : xs[j]? = some x) : (∃ c, (c = 1 ∨ c = -1) ∧ TEff K H x [] c) ∨ ∃ c, (c = 1 ∨ c = p - 1) ∧ TEff K H x [(0, c)] 0 := by
  obtain ⟨a, b, c, d, rfl, h1, h2, h3, h4⟩ := h
  match j, hx with
  | 0, e => cases e; exact .inl ⟨1, .inl rfl, h1⟩
  | 1, e => cases e; exact .inl ⟨-1, .inr rfl, h2⟩
  | 2, e => cases e; exact .inr ⟨1, .inl rfl, h3⟩
  | 3, e => cases e; exact .inr ⟨p - 1, .inr rfl, h4⟩
theorem none_before {H H' : Hp} {D : Addr} (s : Same H H') (h : H' D = none) : H D = none := by
  cases e : H D with
  | none => rfl
  | some o =>
    have z := s _ _ e
    rw [h] at z
    cases z
theorem pen_nl {H : Hp} {p c L : Addr} {n : Nat} {xs : List V} (pen : PenAt H p c n) (h : H L = some (.lst xs)) : L ≠ p := fun e => by
  obtain ⟨kvs, z⟩ := pen.dict
  rw [e, z] at h
  cases h
theorem paired_app {α β : Type} {R : α → β → Prop} : ∀ {xs ys : List α} {a b : List β}, Paired R xs a → Paired R ys b → Paired R (xs ++ ys) (a ++ b)
  | _, _, _, _, .nil, h => h
  | _, _, _, _, .cons r t, h => .cons r (paired_app t h)
end DR
namespace DR
open PySem PySem.Spec PyProof.Rows L2
theorem TEff.same {K : PySem.W.Frag} {H H' : Hp} {v : V} {f : Pol} {n : Int} (s : Same H H') (h : TEff K H v f n) : TEff K H' v f n := h.tp (Same.tp s)
/-- a factor beside one that reaches over 0 lies within -/
theorem fac_bd {p : Int} (hp : p ∈ primes) {q g f : Pol} (nq : Nf p q (cf q)) (ng : Nf p g (cf g)) (h0 : cf g 0 ≠ 0) (he : ∀ e, conv q (cf g) e % p = cf f e % p) {A : Nat} (hf : ∀ t ∈ f, t.1.natAbs ≤ A) : ∀ t ∈ q, t.1.natAbs ≤ A := by
  intro t ht
  obtain ⟨z, hz, hz0⟩ := cf_ne h0
  have hgn : g ≠ [] := fun e => by rw [e] at hz; cases hz
  obtain ⟨g0, dg, lead, hg⟩ := ne_snoc hgn
  obtain ⟨u, g1, hg1⟩ : ∃ u g1, g = u :: g1 := by
    cases g with
    | nil => exact absurd rfl hgn
    | cons u g1 => exact ⟨u, g1, rfl⟩
  have hqn : q ≠ [] := fun e => by rw [e] at ht; cases ht
  obtain ⟨q0, dq, cq, hq⟩ := ne_snoc hqn
  obtain ⟨w, q1, hq1⟩ : ∃ u g1, q = u :: g1 := by
    cases q with
    | nil => exact absurd rfl hqn
    | cons u g1 => exact ⟨u, g1, rfl⟩
  have hu0 : u.1 ≤ 0 := by
    have a := ng.asc
    rw [hg1] at a
    rw [← hz0]
    exact asc_le a (by rw [← hg1]; exact hz)
  have hd0 : 0 ≤ dg := by
    have a := ng.asc
    rw [hg] at a
    rw [← hz0]
    exact asc_last a z (by rw [← hg]; exact hz)
  have b1 : cf f (w.1 + u.1) ≠ 0 := fun e0 => by
    have e1 := he (w.1 + u.1)
    rw [e0, hq1, hg1, conv_least (t := w) (u := u) (by rw [← hq1]; exact nq.asc) (by rw [← hg1]; exact ng.asc)] at e1
    exact prime_nz hp (nq.rng w (by rw [hq1]; simp)).1 (nq.rng w (by rw [hq1]; simp)).2 (ng.rng u (by rw [hg1]; simp)).1 (ng.rng u (by rw [hg1]; simp)).2 (e1.trans (Int.zero_emod _))
  have b2 : cf f (dq + dg) ≠ 0 := fun e0 => by
    have e1 := he (dq + dg)
    have ah := nq.asc
    have ag := ng.asc
    rw [hq] at ah
    rw [hg] at ag
    rw [e0, hq, hg, conv_great (t := (dq, cq)) (u := (dg, lead)) ah ag] at e1
    exact prime_nz hp (nq.rng (dq, cq) (by rw [hq]; simp)).1 (nq.rng (dq, cq) (by rw [hq]; simp)).2 (ng.rng (dg, lead) (by rw [hg]; simp)).1 (ng.rng (dg, lead) (by rw [hg]; simp)).2 (e1.trans (Int.zero_emod _))
  obtain ⟨t1, m1, e1⟩ := cf_ne b1
  obtain ⟨t2, m2, e2⟩ := cf_ne b2
  have h1 := hf t1 m1
  have h2 := hf t2 m2
  have h3 : w.1 ≤ t.1 := by
    have a := nq.asc
    rw [hq1] at a
    exact asc_le a (by rw [← hq1]; exact ht)
  have h4 : t.1 ≤ dq := by
    have a := nq.asc
    rw [hq] at a
    exact asc_last a t (by rw [← hq]; exact ht)
  omega
theorem rounds_zero {k : Int} (hk : k ≠ 0) : ∀ n : Nat, cf (rounds n k) 0 = if 0 < n then 1 else 0
  | 0 => rfl
  | n + 1 => by
    rw [rounds_succ, cf_append, rounds_zero hk n]
    show (if 0 < n then 1 else 0) + ((if (n : Int) * k = 0 then 1 else 0) + 0) = if 0 < n + 1 then 1 else 0
    rw [if_pos (Nat.succ_pos n)]
    by_cases z : n = 0
    · rw [z]
      simp
    · rw [if_pos (by omega), if_neg (fun y => by
        rcases Int.mul_eq_zero.mp y with h | h
        · omega
        · exact hk h)]
      rfl
/-- the normal form of 1 + t ** k + .. -/
theorem geo_ex {p : Int} (hp : 2 ≤ p) {k : Int} (hk : k ≠ 0) {n : Nat} (hn : 0 < n) : ∃ g, Nf p g (cf (rounds n k)) ∧ cf g 0 ≠ 0 := by
  obtain ⟨g, ng⟩ := nf_ex (p := p) (by omega) (rounds n k)
  refine ⟨g, ng, ?_⟩
  rw [ng.cof, rounds_zero hk, if_pos hn, Int.emod_eq_of_lt (by omega) (by omega)]
  omega
theorem IsR.bd {p : Int} (hp : p ∈ primes) {f q : Pol} {s k c : Int} (h : IsR p f s q k c) (hs : s ≠ 0) {A : Nat} (hf : ∀ t ∈ f, t.1.natAbs ≤ A) : ∀ t ∈ q, t.1.natAbs ≤ A := by
  have hpr := prime_rng p hp
  have hk := h.k0 hs
  have hc := h.pos
  obtain ⟨g, ng, h0⟩ := geo_ex hpr.1 hk (n := c.toNat) (by omega)
  refine fac_bd hp h.nf ng.self h0 (fun e => ?_) hf
  have e1 := Cm.power hp hk (by omega) h.mul h.cm e
  rw [← pw_rounds q k (by omega)] at e1
  rw [← e1]
  exact conv_mod (fun x => by rw [ng.cof, Int.emod_emod]) q e
/-! ### what root returns, as data -/
end DR
namespace DR
open PySem PySem.Spec PyProof.Rows L2
theorem kp_mut {p L : Addr} {H H' : Hp} {o : HO} (k : Kp p H H') (h : H L = none) : Kp p H (upd H' L o) := fun b u nb e => by
  rw [upd_ne (ne_of_none e h)]
  exact k b u nb e
/-- an effect among the others -/
def ItM (K : PySem.W.Frag) (q : Int) (H : Hp) (v : V) : Prop := ∃ g m, TEff K H v g m ∧ Nf q g (cf g) ∧ g.length ≤ 100 ∧ m.natAbs ≤ 40
theorem ItM.tp {K : PySem.W.Frag} {q : Int} {H H' : Hp} {v : V} (t : Tp H H') (h : ItM K q H v) : ItM K q H' v := by
  obtain ⟨g, m, h1, h2⟩ := h
  exact ⟨g, m, h1.tp t, h2⟩
end DR
namespace DR
open PySem PySem.Spec PyProof.Rows L2
section
variable {K : PySem.W.Frag} {H : Hp}
theorem Prs.erase : ∀ {xs : List V} {f : Pol} (k : Nat), Prs K H xs f → Prs K H (xs.eraseIdx k) (f.eraseIdx k)
  | _, _, _, .nil => .nil
  | _, _, 0, .cons _ t => t
  | _, _, k + 1, .cons h t => .cons h (Prs.erase k t)
end
end DR
namespace DR
open PySem PySem.Spec PyProof.Rows L2
/-- a root lies within -/
theorem Cm.bd {p : Int} (hp : p ∈ primes) {f q : Pol} {s k n : Int} (hk : k ≠ 0) (hn : 0 < n) (hs : s = n * k) (nq : Nf p q (cf q)) (h : Cm p f s q k) {A : Nat} (hf : ∀ t ∈ f, t.1.natAbs ≤ A) : ∀ t ∈ q, t.1.natAbs ≤ A := by
  have hpr := prime_rng p hp
  obtain ⟨g, ng, h0⟩ := geo_ex hpr.1 hk (n := n.toNat) (by omega)
  refine fac_bd hp nq ng.self h0 (fun e => ?_) hf
  have e1 := Cm.power hp hk (by omega) hs h e
  rw [← pw_rounds q k (by omega)] at e1
  rw [← e1]
  exact conv_mod (fun x => by rw [ng.cof, Int.emod_emod]) q e
/-- an effect of the law's -/
def EfM (K : PySem.W.Frag) (q : Int) (H : Hp) (v : V) : Prop := ∃ g m, TEff K H v g m ∧ Nf q g (cf g) ∧ (∀ t ∈ g, t.1.natAbs ≤ 60) ∧ m.natAbs ≤ 60 ∧ (m = 0 → g.length ≤ 10)
theorem EfM.tp {K : PySem.W.Frag} {q : Int} {H H' : Hp} {v : V} (t : Tp H H') (h : EfM K q H v) : EfM K q H' v := by
  obtain ⟨g, m, h1, h2⟩ := h
  exact ⟨g, m, h1.tp t, h2⟩
end DR
namespace DR
open PySem PySem.Spec PyProof.Rows L2
/-! ### length certificates -/
abbrev Tri := Int × Int × Int
def TriV (K : PySem.W.Frag) (H : Hp) (x : V) (t : Tri) : Prop := ∃ a, x = .ref a ∧ SqT K H a [.int t.1, .int t.2.1, .int t.2.2]
theorem TriV.tp {K : PySem.W.Frag} {H H' : Hp} {x : V} {t : Tri} (e : Tp H H') (h : TriV K H x t) : TriV K H' x t := by
  obtain ⟨a, r, q⟩ := h
  exact ⟨a, r, tp_t e q⟩
abbrev TriVs (K : PySem.W.Frag) (H : Hp) : List V → List Tri → Prop := Paired (TriV K H)
theorem TriVs.tp {K : PySem.W.Frag} {H H' : Hp} (e : Tp H H') : ∀ {xs : List V} {ts : List Tri}, TriVs K H xs ts → TriVs K H' xs ts
  | _, _, .nil => .nil
  | _, _, .cons r q => .cons (r.tp e) (TriVs.tp e q)
theorem TriVs.get {K : PySem.W.Frag} {H : Hp} : ∀ {xs : List V} {ts : List Tri} {j : Nat} {x : V}, TriVs K H xs ts → xs[j]? = some x → ∃ t, ts[j]? = some t ∧ TriV K H x t
  | _, _, _, _, .nil, e => nomatch e
  | _, _, 0, _, .cons r _, e => by
    cases e
    exact ⟨_, rfl, r⟩
  | _, _, j + 1, _, .cons _ q, e => TriVs.get (j := j) q e
theorem TriVs.len {K : PySem.W.Frag} {H : Hp} : ∀ {xs : List V} {ts : List Tri}, TriVs K H xs ts → xs.length = ts.length
  | _, _, .nil => rfl
  | _, _, .cons _ q => by rw [List.length_cons, TriVs.len q, List.length_cons]
/-! the certificate of an effect -/
/-! what the defs promise -/
end DR
open L2 PySem PySem.Spec PyProof.Rows
/-! the parts of a certificate as the program tests them -/
namespace DR
/-- rows of ints -/
def Row (K : PySem.W.Frag) (H : Hp) (x : V) (r : List Int) : Prop := ∃ a, x = .ref a ∧ SqT K H a (r.map V.int)
theorem Row.tp {K : PySem.W.Frag} {H H' : Hp} {x : V} {r : List Int} (e : Tp H H') (h : Row K H x r) : Row K H' x r := by
  obtain ⟨a, z, q⟩ := h
  exact ⟨a, z, tp_t e q⟩
abbrev Rows (K : PySem.W.Frag) (H : Hp) : List V → List (List Int) → Prop := Paired (Row K H)
theorem Rows.tp {K : PySem.W.Frag} {H H' : Hp} (e : Tp H H') : ∀ {xs : List V} {rs : List (List Int)}, Rows K H xs rs → Rows K H' xs rs
  | _, _, .nil => .nil
  | _, _, .cons r q => .cons (r.tp e) (Rows.tp e q)
theorem Rows.get {K : PySem.W.Frag} {H : Hp} : ∀ {xs : List V} {rs : List (List Int)} {j : Nat} {x : V}, Rows K H xs rs → xs[j]? = some x → ∃ r, rs[j]? = some r ∧ Row K H x r
  | _, _, j, _, .nil, e => by cases j <;> cases e
  | _, _, 0, _, .cons r _, e => by cases e; exact ⟨_, rfl, r⟩
  | _, _, j + 1, _, .cons _ q, e => Rows.get (j := j) q e
theorem Rows.len {K : PySem.W.Frag} {H : Hp} : ∀ {xs : List V} {rs : List (List Int)}, Rows K H xs rs → xs.length = rs.length
  | _, _, .nil => rfl
  | _, _, .cons _ q => congrArg (· + 1) (Rows.len q)
end DR
/-! ### strides, each so often as the group that has it most often -/
namespace DR
open PySem PySem.Spec PyProof.Rows L2
/-- the dict of strides while the groups are walked -/
structure StJ (A : Grp) (g : Pol) (j : Nat) (m : Pol) : Prop where
  nd : (m.map (·.1)).Nodup
  low : ∀ u ∈ A, ∀ s, (sct s u.1 : Int) ≤ cf m s
  mine : ∀ s ∈ (g.map (·.2)).take j, (sct s g : Int) ≤ cf m s
  att : ∀ s ∈ m.map (·.1), (∃ u ∈ A, cf m s = sct s u.1) ∨ cf m s = sct s g
structure StI (A : Grp) (m : Pol) : Prop where
  nd : (m.map (·.1)).Nodup
  low : ∀ u ∈ A, ∀ s, (sct s u.1 : Int) ≤ cf m s
  att : ∀ s ∈ m.map (·.1), ∃ u ∈ A, cf m s = sct s u.1
theorem StJ.over {A : Grp} {m : Pol} {g : Pol × Pol} (h : StJ A g.1 g.1.length m) (pos : ∀ s, 0 ≤ cf m s) : StI (A ++ [g]) m := by
  refine ⟨h.nd, fun u hu s => ?_, fun s hs => ?_⟩
  · rcases List.mem_append.mp hu with z | z
    · exact h.low u z s
    · cases List.mem_singleton.mp z
      by_cases m0 : s ∈ g.1.map (·.2)
      · refine h.mine s ?_
        rw [List.take_of_length_le (by rw [List.length_map]; exact Nat.le_refl _)]
        exact m0
      · have : sct s g.1 = 0 := List.count_eq_zero.mpr m0
        rw [this]
        exact pos s
  · rcases h.att s hs with ⟨u, hu, e⟩ | e
    · exact ⟨u, List.mem_append_left _ hu, e⟩
    · exact ⟨g, List.mem_append_right _ (List.mem_singleton.mpr rfl), e⟩
theorem StJ.pos {A : Grp} {g m : Pol} {j : Nat} (h : StJ A g j m) (s : Int) : 0 ≤ cf m s := by
  by_cases z : s ∈ m.map (·.1)
  · rcases h.att s z with ⟨u, _, e⟩ | e <;> omega
  · rw [cf_out z]
    exact Int.le_refl _
end DR
/-! ### groups with one stride less -/
/-! ### the extremes of a sum of terms -/
namespace DR
open PySem PySem.Spec PyProof.Rows L2
/-- strides: how often each may be taken out -/
def SOk (U : List Int) (r : Pol) : Prop := RsOk r ∧ r.length ≤ 2 ∧ ∀ s, sct s r ≤ U.count s
theorem SOk.drop {s : Int} {U : List Int} {r : Pol} (h : SOk (s :: U) r) : SOk U (dropS s r) := by
  obtain ⟨a, b, c⟩ := h
  refine ⟨fun t ht => a t (dropS_sub s r t ht), Nat.le_trans (dropS_len s r) b, fun u => ?_⟩
  rw [sct_drop]
  have := c u
  rw [List.count_cons] at this
  by_cases e : u = s
  · rw [if_pos e]
    rw [if_pos (by rw [e, beq_self_eq_true])] at this
    omega
  · rw [if_neg e]
    rw [if_neg (fun y => e (eq_of_beq y).symm)] at this
    omega
end DR
/-! ### the strides of a program's repeats, and of its terms -/
namespace DR
open PySem PySem.Spec PyProof.Rows L2
mutual
def sdI : Ins → List Int
  | .step _ => []
  | .turn _ => []
  | .rep _ b => ((shP b).natAbs : Int) :: sdP b
def sdP : List Ins → List Int
  | [] => []
  | i :: r => sdI i ++ sdP r
end
theorem sdP_nil : sdP [] = [] := by rw [sdP]
theorem sdP_cons (i : Ins) (r : List Ins) : sdP (i :: r) = sdI i ++ sdP r := by rw [sdP]
theorem sdP_app : ∀ a b : List Ins, sdP (a ++ b) = sdP a ++ sdP b
  | [], b => by rw [sdP_nil]; rfl
  | i :: r, b => by rw [List.cons_append, sdP_cons, sdP_cons, sdP_app r b, List.append_assoc]
theorem sdP_one (i : Ins) : sdP [i] = sdI i := by rw [sdP_cons, sdP_nil, List.append_nil]
end DR
/-! ### drawn programs, with how many repeats they have -/
namespace DR
open PySem PySem.Spec PyProof.Rows L2
structure PrS (b : List Ins) (k N : Nat) (R : Int) (m : Nat) : Prop where
  r : PrR b k N R
  st : (sdP b).length ≤ m
theorem flat_sd : ∀ {b : List Ins}, (∀ i ∈ b, isFlat i) → sdP b = []
  | [], _ => sdP_nil
  | i :: r, h => by
    rw [sdP_cons, flat_sd fun j hj => h j (List.mem_cons_of_mem i hj), List.append_nil]
    have := h i List.mem_cons_self
    cases i with
    | step _ => rw [sdI]
    | turn _ => rw [sdI]
    | rep _ _ => exact absurd this id
theorem Flat.okS {b : List Ins} {N R : Nat} (h : Flat b N R) (hR : R ≤ 2 ^ 100) (M : Int) : PrS b 0 N M 0 := ⟨h.okR hR M, by rw [flat_sd h.flat]; exact Nat.le_refl _⟩
theorem PrS.app {b c : List Ins} {k j N M m n : Nat} {R : Int} (h : PrS b k N R m) (h2 : PrS c j M R n) : PrS (b ++ c) (max k j) (N + M) R (m + n) := ⟨h.r.app h2.r, by
  rw [sdP_app, List.length_append]
  have := h.st
  have := h2.st
  omega⟩
theorem PrS.rep {b : List Ins} {k N m : Nat} {R : Int} (h : PrS b k N R m) (hN : N ≤ 1024) {n : Int} (hn : n.natAbs ≤ 2 ^ 100) (h0 : 0 ≤ n) (h9 : n ≤ R) : PrS [.rep n b] (k + 1) (N + 1) R (m + 1) := ⟨h.r.rep hN hn h0 h9, by
  rw [sdP_one, sdI, List.length_cons]
  exact Nat.succ_le_succ h.st⟩
theorem PrS.up {b : List Ins} {k N m k' N' m' : Nat} {R : Int} (h : PrS b k N R m) (a : k ≤ k') (c : N ≤ N') (d : m ≤ m') : PrS b k' N' R m' := ⟨h.r.up a c, Nat.le_trans h.st d⟩
end DR
namespace DR
open PySem PySem.Spec PyProof.Rows L2
theorem Ends1.uniq {p lo hi lo' hi' : Int} {F : Int → Int} (a : Ends1 p F lo hi) (b : Ends1 p F lo' hi') : lo = lo' ∧ hi = hi' := by
  refine ⟨?_, ?_⟩
  · rcases Int.lt_trichotomy lo lo' with z | z | z
    · exact absurd (b.below lo z) a.atLo
    · exact z
    · exact absurd (a.below lo' z) b.atLo
  · rcases Int.lt_trichotomy hi hi' with z | z | z
    · exact absurd (a.above hi' z) b.atHi
    · exact z
    · exact absurd (b.above hi z) a.atHi
end DR
/-! ### the cuts of a drawn program -/
/-! ### drawn programs cut in nine, factors on turns, places touched (k42, k39) -/
namespace DR
open PySem PySem.Spec PyProof.Rows L2
/-! what this does to the ends -/
theorem Ends1.moved {p lo hi : Int} {b : List Ins} (E : Ends1 p (seP b) lo hi) (a : Int) : Ends1 p (seP ([.step a] ++ b)) (lo + a) (hi + a) := by
  have e : ∀ x, seP ([.step a] ++ b) x = seP b (x - a) := fun x => by
    rw [seP_app, seP_cons, seP_nil, shP_cons, shP_nil, seI, shI]
    rw [Int.add_zero, Int.add_zero, Int.zero_add]
  refine ⟨?_, ?_, fun x h => ?_, fun x h => ?_⟩
  · rw [e, show lo + a - a = lo by omega]
    exact E.atLo
  · rw [e, show hi + a - a = hi by omega]
    exact E.atHi
  · rw [e]
    exact E.below _ (by omega)
  · rw [e]
    exact E.above _ (by omega)
theorem none_moved {p : Int} {b : List Ins} (h : ∀ x, p ∣ seP b x) (a : Int) : ∀ x, p ∣ seP ([.step a] ++ b) x := fun x => by
  rw [seP_app, seP_cons, seP_nil, seI, Int.add_zero, Int.zero_add]
  exact h _
theorem Ends1.same {p lo hi : Int} {F G : Int → Int} (E : Ends1 p F lo hi) (e : ∀ x, p ∣ G x ↔ p ∣ F x) : Ends1 p G lo hi := ⟨fun h => E.atLo ((e lo).mp h), fun h => E.atHi ((e hi).mp h), fun x h => (e x).mpr (E.below x h), fun x h => (e x).mpr (E.above x h)⟩
end DR
namespace DR
open PySem PySem.Spec PyProof.Rows L2
/-- what an extent tells of a program -/
def Tells (K : PySem.W.Frag) (H : Hp) (p : Int) (b : List Ins) (v : V) : Prop := (v = .non ∧ ∀ x, p ∣ seP b x) ∨ ∃ T lo hi, v = .ref T ∧ SqT K H T [.int lo, .int hi] ∧ Ends1 p (seP b) lo hi ∧ lo.natAbs ≤ 2 ^ 338 ∧ hi.natAbs ≤ 2 ^ 338
theorem Tells.kp {K : PySem.W.Frag} {H H' : Hp} {q : Int} {b : List Ins} {v : V} {p c : Addr} {n : Nat} (t : Tells K H q b v) (pen : PenAt H p c n) (k : Kp p H H') : Tells K H' q b v := t.elim .inl fun ⟨T, lo, hi, e, hT, r⟩ => .inr ⟨T, lo, hi, e, tp_t (pen.tp k) hT, r⟩
theorem Tells.same {K : PySem.W.Frag} {H H' : Hp} {q : Int} {b : List Ins} {v : V} (t : Tells K H q b v) (s : Same H H') : Tells K H' q b v := t.elim .inl fun ⟨T, lo, hi, e, hT, r⟩ => .inr ⟨T, lo, hi, e, same_t s hT, r⟩
theorem Ends1.le {p lo hi : Int} {F : Int → Int} (E : Ends1 p F lo hi) : lo ≤ hi := Classical.byContradiction fun z => E.atHi (E.below hi (by omega))
end DR
namespace DR
open PySem PySem.Spec PyProof.Rows L2
/-- the ends an extent tells, as a list -/
def EndsAs (p : Int) (b : List Ins) (es : List Int) : Prop := (es = [] ∧ ∀ x, p ∣ seP b x) ∨ ∃ lo hi, es = [lo, hi] ∧ Ends1 p (seP b) lo hi
def endsD : List Int → PyData
  | [] => .none
  | es => .tuple (es.map .int)
theorem EndsAs.len {p : Int} {b : List Ins} {es : List Int} (h : EndsAs p b es) : es = [] ∨ ∃ lo hi, es = [lo, hi] := by
  rcases h with ⟨e, _⟩ | ⟨lo, hi, e, _⟩
  · exact .inl e
  · exact .inr ⟨lo, hi, e⟩
/-- what is told of a program is what its ends are -/
theorem Tells.dp {K : PySem.W.Frag} {H : Hp} {p : Int} {b : List Ins} {v : V} {es : List Int} (t : Tells K H p b v) (e : EndsAs p b es) : Dp K H v (endsD es) := by
  rcases t with ⟨rfl, all⟩ | ⟨T, lo, hi, rfl, hT, E1, _, _⟩
  · rcases e with ⟨rfl, _⟩ | ⟨lo, hi, rfl, E2⟩
    · exact .non
    · exact absurd (all lo) E2.atLo
  · rcases e with ⟨rfl, all⟩ | ⟨lo2, hi2, rfl, E2⟩
    · exact absurd (all lo) E1.atLo
    · obtain ⟨rfl, rfl⟩ := E1.uniq E2
      exact .tup hT (.cons (.int _) (.cons (.int _) .nil))
theorem EndsAs.none {p : Int} {b : List Ins} {v : V} {K : PySem.W.Frag} {H : Hp} (t : Tells K H p b v) (all : ∀ x, p ∣ seP b x) : v = .non := by
  rcases t with ⟨rfl, _⟩ | ⟨T, lo, hi, rfl, hT, E1, _, _⟩
  · rfl
  · exact absurd (all lo) E1.atLo
theorem EndsAs.moved {p : Int} {b : List Ins} {es : List Int} (h : EndsAs p b es) (a : Int) : EndsAs p ([.step a] ++ b) (es.map fun x => x + a) := by
  rcases h with ⟨rfl, all⟩ | ⟨lo, hi, rfl, E⟩
  · exact .inl ⟨rfl, none_moved all a⟩
  · exact .inr ⟨_, _, rfl, E.moved a⟩
theorem EndsAs.same {p : Int} {b c : List Ins} {es : List Int} (h : EndsAs p b es) (e : ∀ x, p ∣ seP c x ↔ p ∣ seP b x) : EndsAs p c es := by
  rcases h with ⟨rfl, all⟩ | ⟨lo, hi, rfl, E⟩
  · exact .inl ⟨rfl, fun x => (e x).mpr (all x)⟩
  · exact .inr ⟨_, _, rfl, E.same e⟩
/-- what an extent asks of a program -/
def PrE (b : List Ins) : Prop := dpP b < 3 ∧ WP b ∧ NP b ∧ cnP b ≤ 400 ∧ (sdP b).length ≤ 10
theorem PrS.ext {b : List Ins} {k N m : Nat} {R : Int} (h : PrS b k N R m) (hk : k ≤ 2) (hN : N ≤ 400) (hm : m ≤ 10) : PrE b := ⟨by have := h.r.ok.dp; omega, h.r.ok.w, h.r.nn, by have := h.r.ok.cn; omega, Nat.le_trans h.st hm⟩
end DR
/-! ### two programs and what is told of their first difference (k39) -/
namespace DR
open PySem PySem.Spec PyProof.Rows L2
/-- what a first difference tells -/
def Told (K : PySem.W.Frag) (H : Hp) (p : Int) (b c : List Ins) (v : V) : Prop :=
  (∃ T x, v = .ref T ∧ (∀ y, y < x → seP b y % p = seP c y % p) ∧ seP b x % p ≠ seP c x % p ∧ SqT K H T [.str "dial", .int x, .int (seP b x % p), .int (seP c x % p)]) ∨
  (∃ T, v = .ref T ∧ (∀ y, seP b y % p = seP c y % p) ∧ shP b ≠ shP c ∧ SqT K H T [.str "shift", .int (shP b), .int (shP c)]) ∨
  (v = .non ∧ (∀ y, seP b y % p = seP c y % p) ∧ shP b = shP c)
theorem Told.same {K : PySem.W.Frag} {H H' : Hp} {p : Int} {b c : List Ins} {v : V} (t : Told K H p b c v) (s : Same H H') : Told K H' p b c v := by
  rcases t with ⟨T, x, e, h1, h2, h3⟩ | ⟨T, e, h1, h2, h3⟩ | h
  · exact .inl ⟨T, x, e, h1, h2, same_t s h3⟩
  · exact .inr (.inl ⟨T, e, h1, h2, same_t s h3⟩)
  · exact .inr (.inr h)
theorem Told.kp {K : PySem.W.Frag} {H H' : Hp} {p : Int} {b c : List Ins} {v : V} {pn cn : Addr} {n : Nat} (t : Told K H p b c v) (pen : PenAt H pn cn n) (k : Kp pn H H') : Told K H' p b c v := by
  rcases t with ⟨T, x, e, h1, h2, h3⟩ | ⟨T, e, h1, h2, h3⟩ | h
  · exact .inl ⟨T, x, e, h1, h2, tp_t (pen.tp k) h3⟩
  · exact .inr (.inl ⟨T, e, h1, h2, tp_t (pen.tp k) h3⟩)
  · exact .inr (.inr h)
theorem PrS.wide {b : List Ins} {k N m : Nat} {R R' : Int} (h : PrS b k N R m) (hR : R ≤ R') : PrS b k N R' m := ⟨⟨h.r.ok, h.r.nn, RP_up hR _ h.r.rp⟩, h.st⟩
theorem Flat.more {b : List Ins} {N R : Nat} (h : Flat b N R) {i : Ins} (fi : isFlat i) (hi : (cntOf i).natAbs ≤ R) : Flat (b ++ [i]) (N + 1) R := ⟨by
  rw [List.length_append]
  exact Nat.succ_le_succ h.len, fun j hj => by
  rcases List.mem_append.mp hj with g | g
  · exact h.flat j g
  · cases List.mem_singleton.mp g
    exact fi, fun j hj => by
  rcases List.mem_append.mp hj with g | g
  · exact h.cnt j g
  · cases List.mem_singleton.mp g
    exact hi⟩
end DR
namespace DR
open PySem PySem.Spec PyProof.Rows L2
/-- an extent by its list of ends -/
def TellE (K : PySem.W.Frag) (H : Hp) (u : V) (es : List Int) : Prop := (u = .non ∧ es = []) ∨ ∃ T lo hi, u = .ref T ∧ es = [lo, hi] ∧ SqT K H T [.int lo, .int hi]
theorem Tells.out {K : PySem.W.Frag} {H : Hp} {q : Int} {b : List Ins} {u : V} (t : Tells K H q b u) : ∃ es, EndsAs q b es ∧ TellE K H u es ∧ ∀ z ∈ es, z.natAbs ≤ 2 ^ 338 := by
  rcases t with ⟨e, all⟩ | ⟨T, lo, hi, e, hT, E, h1, h2⟩
  · exact ⟨[], .inl ⟨rfl, all⟩, .inl ⟨e, rfl⟩, fun z h => absurd h List.not_mem_nil⟩
  · refine ⟨[lo, hi], .inr ⟨lo, hi, rfl, E⟩, .inr ⟨T, lo, hi, e, rfl, hT⟩, fun z h => ?_⟩
    rcases List.mem_cons.mp h with g | g
    · rw [g]
      exact h1
    · rw [List.mem_singleton.mp g]
      exact h2
theorem TellE.same {K : PySem.W.Frag} {H H' : Hp} {u : V} {es : List Int} (t : TellE K H u es) (s : Same H H') : TellE K H' u es := t.elim .inl fun ⟨T, lo, hi, a, b, hT⟩ => .inr ⟨T, lo, hi, a, b, same_t s hT⟩
theorem TellE.dp {K : PySem.W.Frag} {H : Hp} {u : V} {es : List Int} (t : TellE K H u es) : Dp K H u (endsD es) := by
  rcases t with ⟨rfl, rfl⟩ | ⟨T, lo, hi, rfl, rfl, hT⟩
  · exact .non
  · exact .tup hT (.cons (.int _) (.cons (.int _) .nil))
theorem TellE.non {K : PySem.W.Frag} {H : Hp} {u : V} {es : List Int} (t : TellE K H u es) : (!decide (u = .non)) = es.head?.isSome := by
  rcases t with ⟨rfl, rfl⟩ | ⟨_, _, _, rfl, rfl, _⟩
  · exact congrArg (! ·) (decide_eq_true rfl)
  · exact congrArg (! ·) (decide_eq_false fun z => by cases z)
theorem EndsAs.uniq {p : Int} {b d : List Ins} {es fs : List Int} (h : EndsAs p b es) (g : EndsAs p d fs) (e : ∀ x, seP b x % p = seP d x % p) : es = fs := by
  have iff : ∀ x, p ∣ seP b x ↔ p ∣ seP d x := fun x => ⟨fun z => Int.dvd_of_emod_eq_zero ((e x).symm.trans (Int.emod_eq_zero_of_dvd z)), fun z => Int.dvd_of_emod_eq_zero ((e x).trans (Int.emod_eq_zero_of_dvd z))⟩
  rcases h with ⟨rfl, all⟩ | ⟨lo, hi, rfl, E⟩
  · rcases g with ⟨rfl, _⟩ | ⟨lo, hi, rfl, G⟩
    · rfl
    · exact absurd ((iff lo).mp (all lo)) G.atLo
  · rcases g with ⟨rfl, all⟩ | ⟨lo', hi', rfl, G⟩
    · exact absurd ((iff lo).mpr (all lo)) E.atLo
    · obtain ⟨rfl, rfl⟩ := (E.same fun x => (iff x).symm).uniq G
      rfl
end DR
namespace DR
open PySem PySem.Spec PyProof.Rows L2
theorem iteNF {c A B : Prop} [Decidable c] (hc : c) (h : B) : if (!decide c) = true then A else B := by
  rw [decide_eq_true hc]
  exact h
end DR
/-! ### programs that are lists all the way down, and what rewriting leaves of them (k38, k37, k40, k30) -/
namespace DR
open PySem PySem.Spec PyProof.Rows L2
mutual
inductive LI (K : PySem.W.Frag) (H : Hp) : V → Ins → Prop
  | step {a : Addr} {c : Int} : SqT K H a [.str "step", .int c] → LI K H (.ref a) (.step c)
  | turn {a : Addr} {c : Int} : SqT K H a [.str "turn", .int c] → LI K H (.ref a) (.turn c)
  | rep {a L : Addr} {n : Int} {xs : List V} {b : List Ins} : SqT K H a [.str "repeat", .int n, .ref L] → H L = some (.lst xs) → LIs K H xs b → LI K H (.ref a) (.rep n b)
inductive LIs (K : PySem.W.Frag) (H : Hp) : List V → List Ins → Prop
  | nil : LIs K H [] []
  | cons {x : V} {xs : List V} {i : Ins} {b : List Ins} : LI K H x i → LIs K H xs b → LIs K H (x :: xs) (i :: b)
end
section
variable {K : PySem.W.Frag} {H H' : Hp}
mutual
theorem LI.stay (ht : ∀ a us, SqT K H a us → SqT K H' a us) (hl : ∀ L xs, H L = some (.lst xs) → H' L = some (.lst xs)) : ∀ {x : V} {i : Ins}, LI K H x i → LI K H' x i
  | _, _, .step h => .step (ht _ _ h)
  | _, _, .turn h => .turn (ht _ _ h)
  | _, _, .rep h e q => .rep (ht _ _ h) (hl _ _ e) (LIs.stay ht hl q)
theorem LIs.stay (ht : ∀ a us, SqT K H a us → SqT K H' a us) (hl : ∀ L xs, H L = some (.lst xs) → H' L = some (.lst xs)) : ∀ {xs : List V} {b : List Ins}, LIs K H xs b → LIs K H' xs b
  | _, _, .nil => .nil
  | _, _, .cons h t => .cons (LI.stay ht hl h) (LIs.stay ht hl t)
end
theorem LI.same (e : Same H H') {x : V} {i : Ins} (h : LI K H x i) : LI K H' x i := h.stay (fun _ _ g => same_t e g) fun _ _ g => e _ _ g
theorem LIs.same (e : Same H H') {xs : List V} {b : List Ins} (h : LIs K H xs b) : LIs K H' xs b := h.stay (fun _ _ g => same_t e g) fun _ _ g => e _ _ g
theorem LI.kp {p c : Addr} {n : Nat} (pen : PenAt H p c n) (k : Kp p H H') {x : V} {i : Ins} (h : LI K H x i) : LI K H' x i := h.stay (fun _ _ g => tp_t (pen.tp k) g) fun _ _ g => kp_lst pen k g
theorem LIs.kp {p c : Addr} {n : Nat} (pen : PenAt H p c n) (k : Kp p H H') {xs : List V} {b : List Ins} (h : LIs K H xs b) : LIs K H' xs b := h.stay (fun _ _ g => tp_t (pen.tp k) g) fun _ _ g => kp_lst pen k g
mutual
theorem LI.iv : ∀ {x : V} {i : Ins}, LI K H x i → IV K H x i
  | _, _, .step h => iv_step h
  | _, _, .turn h => iv_turn h
  | _, _, .rep h e q => iv_rep h (pv_list (SqL.of e) (LIs.ivs q))
theorem LIs.ivs : ∀ {xs : List V} {b : List Ins}, LIs K H xs b → IVs K H xs b
  | _, _, .nil => .nil
  | _, _, .cons h t => .cons (LI.iv h) (LIs.ivs t)
end
theorem LIs.len {xs : List V} {b : List Ins} (h : LIs K H xs b) : xs.length = b.length := h.ivs.len
theorem LIs.app : ∀ {xs ys : List V} {b c : List Ins}, LIs K H xs b → LIs K H ys c → LIs K H (xs ++ ys) (b ++ c)
  | _, _, _, _, .nil, h => h
  | _, _, _, _, .cons r q, h => .cons r (LIs.app q h)
end
/-! shaped -/
mutual
theorem isI_lay : ∀ {d : PyData} {i : Ins}, IsI d i → d.canLay0 = true
  | _, _, .step c => by
    show (PyData.canLay0 (.str "step") && (true && true)) = true
    rw [show PyData.canLay0 (.str "step") = true by decide +kernel]
    rfl
  | _, _, .turn c => by
    show (PyData.canLay0 (.str "turn") && (true && true)) = true
    rw [show PyData.canLay0 (.str "turn") = true by decide +kernel]
    rfl
  | _, _, .rep (d := d) n hp => by
    show (PyData.canLay0 (.str "repeat") && (true && (d.canLay0 && true))) = true
    rw [show PyData.canLay0 (.str "repeat") = true by decide +kernel, isP_lay hp]
    rfl
theorem isP_lay : ∀ {d : PyData} {b : List Ins}, IsP d b → d.canLay0 = true
  | _, _, .lst h => isAll_lay h
  | _, _, .tup h => isAll_lay h
theorem isAll_lay : ∀ {ds : List PyData} {b : List Ins}, IsAll ds b → PyData.canLayAll0 ds = true
  | _, _, .nil => rfl
  | _, _, .cons (d := d) (ds := ds) h t => by
    show (d.canLay0 && PyData.canLayAll0 ds) = true
    rw [isI_lay h, isAll_lay t]
    rfl
end
/-- a list of instructions, as data -/
theorem LIs.dp {K : PySem.W.Frag} {H : Hp} {a : Addr} {xs : List V} {b : List Ins} (hI : LIs K H xs b) (h : SqL K H a xs) : ∃ ds, Dp K H (.ref a) (.list ds) ∧ IsP (.list ds) b ∧ (PyData.eqv (.list ds) (.list []) = decide (b = [])) := by
  obtain ⟨ds, a1, a2⟩ := hI.ivs.all
  refine ⟨ds, .lst h a1, .lst a2, ?_⟩
  cases a2 with
  | nil => exact (decide_eq_true rfl).symm
  | cons _ _ => exact (decide_eq_false fun z => by cases z).symm
/-! ### what rewriting leaves -/
def InN (m : Nat) (b : List Ins) : Prop := ∀ n bb, Ins.rep n bb ∈ b → (sdP bb).length ≤ m
theorem InN.app {m : Nat} {b c : List Ins} (h : InN m b) (g : InN m c) : InN m (b ++ c) := fun n bb hm => (List.mem_append.mp hm).elim (h n bb) (g n bb)
theorem sd_flat : ∀ {b : List Ins}, dpP b = 0 → sdP b = []
  | [], _ => sdP_nil
  | i :: r, h => by
    rw [dpP_cons] at h
    rw [sdP_cons, sd_flat (b := r) (by omega), List.append_nil]
    cases i with
    | step _ => rw [sdI]
    | turn _ => rw [sdI]
    | rep _ _ =>
      rw [dpI] at h
      omega
theorem InN.low {b : List Ins} (h : dpP b ≤ 1) (m : Nat) : InN m b := fun n bb hm => by
  have := dpP_mem hm
  rw [dpI] at this
  rw [sd_flat (by omega)]
  exact Nat.zero_le _
structure RwOk (k : Nat) (R : Int) (b : List Ins) : Prop where
  dp : dpP b < k
  w : WP b
  nn : NP b
  rp : RP R b
  inn : InN (k - 2) b
theorem RwOk.app {k : Nat} {R : Int} {b c : List Ins} (h : RwOk k R b) (g : RwOk k R c) : RwOk k R (b ++ c) := ⟨by have := h.dp; have := g.dp; rw [dpP_app]; omega, WP_app _ _ h.w g.w, NP_app _ _ h.nn g.nn, RP_app _ _ h.rp g.rp, h.inn.app g.inn⟩
theorem RwOk.nil {k : Nat} {R : Int} (hk : 0 < k) : RwOk k R [] := ⟨by rw [dpP]; exact hk, by rw [WP]; trivial, by rw [NP]; trivial, by rw [RP]; trivial, fun n bb hm => absurd hm List.not_mem_nil⟩
theorem RwOk.cons {k : Nat} {R : Int} {i : Ins} {r : List Ins} (h : RwOk k R (i :: r)) : RwOk k R [i] ∧ RwOk k R r := by
  obtain ⟨h1, h2, h3, h4, h5⟩ := h
  rw [dpP_cons] at h1
  rw [WP_cons] at h2
  rw [NP_cons] at h3
  rw [RP_cons] at h4
  have z : dpP [] = 0 := by rw [dpP]
  refine ⟨⟨by rw [dpP_cons, z]; omega, by rw [WP_cons, WP]; exact ⟨h2.1, trivial⟩, by rw [NP_cons, NP]; exact ⟨h3.1, trivial⟩, by rw [RP_cons, RP]; exact ⟨h4.1, trivial⟩, fun n bb hm => h5 n bb ?_⟩, ⟨by omega, h2.2, h3.2, h4.2, fun n bb hm => h5 n bb (List.mem_cons_of_mem _ hm)⟩⟩
  rw [List.mem_singleton.mp hm]
  exact List.mem_cons_self
/-- what stands in a repeat is as good, one less deep -/
theorem RwOk.body {k : Nat} {R n : Int} {b : List Ins} (h : RwOk (k + 1) R [.rep n b]) (hk : k ≤ 2) : RwOk k R b ∧ n.natAbs ≤ 2 ^ 100 ∧ 0 ≤ n ∧ n ≤ R ∧ b.length ≤ 1024 ∧ (sdP b).length ≤ k + 1 - 2 := by
  obtain ⟨h1, h2, h3, h4, h5⟩ := h
  rw [dpP_cons, dpI, show dpP [] = 0 by rw [dpP]] at h1
  rw [WP_cons, WI] at h2
  rw [NP_cons, NI] at h3
  rw [RP_cons, RI] at h4
  exact ⟨⟨by omega, h2.1.2.2, h3.1.2, h4.1.2, InN.low (by omega) _⟩, h2.1.1, h3.1.1, h4.1.1, h2.1.2.1, h5 n b (List.mem_singleton.mpr rfl)⟩
end DR
namespace DR
open PySem PySem.Spec PyProof.Rows L2
def isRep : Ins → Bool
  | .rep _ _ => true
  | _ => false
end DR
namespace DR
open PySem PySem.Spec PyProof.Rows L2
theorem at_head (x : V) (r : List V) : atI (x :: r) 0 = some x := by
  unfold atI ixN
  rw [if_pos (Int.le_refl 0), if_pos (show (0 : Int) < ((x :: r).length : Int) by rw [List.length_cons]; omega)]
  rfl
theorem iteT {A B : Prop} (h : A) : if true = true then A else B := (if_pos rfl).mpr h
end DR
/-! ### rewritten programs side by side: what a first difference tells, as data (k38, k37, k40, k30) -/
namespace DR
open PySem PySem.Spec PyProof.Rows L2
/-- what a far function asks of a program: so many instructions, so many repeats -/
def PrN (N m : Nat) (b : List Ins) : Prop := dpP b < 3 ∧ WP b ∧ NP b ∧ cnP b ≤ N ∧ (sdP b).length ≤ m
theorem PrN.up {N m N' m' : Nat} {b : List Ins} (h : PrN N m b) (a : N ≤ N') (c : m ≤ m') : PrN N' m' b := ⟨h.1, h.2.1, h.2.2.1, Nat.le_trans h.2.2.2.1 a, Nat.le_trans h.2.2.2.2 c⟩
theorem PrN.flat {N m M R : Nat} {b c : List Ins} (h : PrN N m b) (f : Flat c M R) (hR : R ≤ 2 ^ 100) : PrN (N + M) m (b ++ c) := by
  have o := f.okS hR 0
  refine ⟨?_, WP_app _ _ h.2.1 o.r.ok.w, NP_app _ _ h.2.2.1 o.r.nn, ?_, ?_⟩
  · rw [dpP_app]
    have := o.r.ok.dp
    have := h.1
    omega
  · rw [cnP_app]
    have := o.r.ok.cn
    have := h.2.2.2.1
    omega
  · rw [sdP_app, List.length_append]
    have := o.st
    have := h.2.2.2.2
    omega
theorem PrS.n {b : List Ins} {k N m : Nat} {R : Int} (h : PrS b k N R m) (hk : k ≤ 2) : PrN N m b := ⟨by have := h.r.ok.dp; omega, h.r.ok.w, h.r.nn, h.r.ok.cn, h.st⟩
/-- rewritten so often -/
structure Twin (q R : Int) (j : Nat) (b d : List Ins) : Prop where
  ok : RwOk 3 R d
  se : ∀ x, seP b x % q = seP d x % q
  sh : shP d = shP b
  cn : cnP d + 2 ≤ 19 * 2 ^ j
  sd : (sdP d).length ≤ 2 + j
theorem Twin.n {q R : Int} {j : Nat} {b d : List Ins} (t : Twin q R j b d) (hj : j ≤ 3) : PrN 150 5 d := by
  refine ⟨t.ok.dp, t.ok.w, t.ok.nn, ?_, ?_⟩
  · have h := t.cn
    have : 2 ^ j ≤ 2 ^ 3 := Nat.pow_le_pow_right (by decide) hj
    omega
  · have := t.sd
    omega
/-- what a first difference of two programs is that can differ at one place alone -/
def diffD (q : Int) (b c : List Ins) (x : Int) : PyData :=
  if seP b x % q = seP c x % q then (if shP b = shP c then .none else .tuple [.str "shift", .int (shP b), .int (shP c)]) else .tuple [.str "dial", .int x, .int (seP b x % q), .int (seP c x % q)]
theorem Told.data {K : PySem.W.Frag} {H : Hp} {q : Int} {b c : List Ins} {v : V} (t : Told K H q b c v) (x : Int) (away : ∀ y, y ≠ x → seP b y % q = seP c y % q) : Dp K H v (diffD q b c x) := by
  unfold diffD
  rcases t with ⟨T, z, rfl, h1, h2, h3⟩ | ⟨T, rfl, h1, h2, h3⟩ | ⟨rfl, h1, h2⟩
  · have e : z = x := Classical.byContradiction fun ne => h2 (away z ne)
    subst e
    rw [if_neg h2]
    exact .tup h3 (.cons (.str _) (.cons (.int _) (.cons (.int _) (.cons (.int _) .nil))))
  · rw [if_pos (h1 x), if_neg h2]
    exact .tup h3 (.cons (.str _) (.cons (.int _) (.cons (.int _) .nil)))
  · rw [if_pos (h1 x), if_pos h2]
    exact .non
end DR
/-! ### how large rewritten programs become, and what is a program (k30) -/
namespace DR
open PySem PySem.Spec PyProof.Rows L2
/-- the bodies of the repeats: so many instructions at most -/
def InB (W : Nat) (b : List Ins) : Prop := ∀ n bb, Ins.rep n bb ∈ b → cnP bb ≤ W
/-- the bodies of the repeats within them -/
def InB2 (V : Nat) (b : List Ins) : Prop := ∀ n bb, Ins.rep n bb ∈ b → InB V bb
theorem InB.flat {b : List Ins} (h : dpP b = 0) (W : Nat) : InB W b := fun n bb hm => by
  have := dpP_mem hm
  rw [dpI] at this
  omega
theorem InB2.low {b : List Ins} (h : dpP b ≤ 1) (V : Nat) : InB2 V b := fun n bb hm => by
  have := dpP_mem hm
  rw [dpI] at this
  exact InB.flat (by omega) V
theorem InB.app {W : Nat} {b c : List Ins} (h : InB W b) (g : InB W c) : InB W (b ++ c) := fun n bb hm => (List.mem_append.mp hm).elim (h n bb) (g n bb)
theorem InB2.app {W : Nat} {b c : List Ins} (h : InB2 W b) (g : InB2 W c) : InB2 W (b ++ c) := fun n bb hm => (List.mem_append.mp hm).elim (h n bb) (g n bb)
theorem InB.up {W W' : Nat} {b : List Ins} (h : InB W b) (e : W ≤ W') : InB W' b := fun n bb hm => Nat.le_trans (h n bb hm) e
theorem InB2.up {W W' : Nat} {b : List Ins} (h : InB2 W b) (e : W ≤ W') : InB2 W' b := fun n bb hm => (h n bb hm).up e
theorem InB.sub {W : Nat} {b c : List Ins} (h : InB W b) (s : ∀ i ∈ c, i ∈ b) : InB W c := fun n bb hm => h n bb (s _ hm)
theorem InB2.sub {W : Nat} {b c : List Ins} (h : InB2 W b) (s : ∀ i ∈ c, i ∈ b) : InB2 W c := fun n bb hm => h n bb (s _ hm)
theorem cp_body {M : Nat} {n : Int} {b : List Ins} (h : CP M [.rep n b]) : CP M b := by
  rw [CP_cons, CI] at h
  exact h.1
/-- what is asked of a program that is rewritten: counts, sizes -/
structure Sz (M W V : Nat) (b : List Ins) : Prop where
  cp : CP M b
  wb : InB W b
  vb : InB2 V b
theorem Sz.app {M W V : Nat} {b c : List Ins} (h : Sz M W V b) (g : Sz M W V c) : Sz M W V (b ++ c) := ⟨CP_app h.cp g.cp, h.wb.app g.wb, h.vb.app g.vb⟩
theorem Sz.up {M W V W' V' : Nat} {b : List Ins} (h : Sz M W V b) (a : W ≤ W') (c : V ≤ V') : Sz M W' V' b := ⟨h.cp, h.wb.up a, h.vb.up c⟩
theorem Sz.body {M W V : Nat} {n : Int} {b : List Ins} (h : Sz M W V [.rep n b]) (hd : dpP b ≤ 1) : Sz M V 0 b ∧ cnP b ≤ W := ⟨⟨cp_body h.cp, h.vb n b (List.mem_singleton.mpr rfl), InB2.low hd 0⟩, h.wb n b (List.mem_singleton.mpr rfl)⟩
/-! a program of the program's own bounds -/
def sp_is_count (K : PySem.W.Frag) : Sp := fun vs H Q _ => ∃ z : Int, vs = [.int z] ∧ z.natAbs ≤ 10 ^ 30 ∧ Q (.bl true) H
def sp_is_step_or_turn (K : PySem.W.Frag) : Sp := fun vs H Q _ => ∃ (v : V) (i : Ins), vs = [v] ∧ IV K H v i ∧ CI (10 ^ 30) i ∧ ∀ H', Same H H' → Q (.bl (!isRep i)) H'
def sp_begins_as_repeat (K : PySem.W.Frag) : Sp := fun vs H Q _ => ∃ (v : V) (n : Int) (bb : List Ins), vs = [v] ∧ IV K H v (.rep n bb) ∧ 0 ≤ n ∧ n ≤ 10 ^ 30 ∧ Q (.bl true) H
def sp_sizes_of (K : PySem.W.Frag) (k : Nat) : Sp := fun vs H Q _ => ∃ (v : V) (d : Int) (b : List Ins), vs = [v, .int d] ∧ PV K H v b ∧ dpP b < k ∧ k ≤ 3 ∧ (dpP b : Int) ≤ d ∧ d ≤ 2 ∧ CP (10 ^ 30) b ∧ NP b ∧ RP (10 ^ 30) b ∧ cnP b ≤ 100 ∧ (sdP b).length ≤ 5 ∧
  ∀ T H', Same H H' → SqT K H' T [.int (cnP b), .int ((sdP b).length : Int)] → Q (.ref T) H'
def sp_is_program (K : PySem.W.Frag) : Sp := fun vs H Q _ => ∃ (v : V) (b : List Ins), vs = [v] ∧ PV K H v b ∧ dpP b < 3 ∧ CP (10 ^ 30) b ∧ NP b ∧ RP (10 ^ 30) b ∧ cnP b ≤ 100 ∧ (sdP b).length ≤ 5 ∧ ∀ H', Same H H' → Q (.bl true) H'
end DR
namespace DR
theorem CP_mem {M : Nat} : ∀ {b : List Ins} {i : Ins}, CP M b → i ∈ b → CI M i
  | [], _, _, h => absurd h List.not_mem_nil
  | j :: r, i, w, h => by
    rw [CP_cons] at w
    rcases List.mem_cons.mp h with e | e
    · rw [e]; exact w.1
    · exact CP_mem w.2 e
end DR
/-! ### first differences of three programs (k40) -/
namespace DR
open PySem PySem.Spec PyProof.Rows L2
/-- where two rows of values part first -/
def DF (f g : Int → Int) (zs : List Int) : Prop := (∃ x, zs = [x] ∧ (∀ y, y < x → f y = g y) ∧ f x ≠ g x) ∨ (zs = [] ∧ ∀ y, f y = g y)
theorem DF.uniq {f g : Int → Int} {zs ws : List Int} (h : DF f g zs) (k : DF f g ws) : zs = ws := by
  rcases h with ⟨x, rfl, h1, h2⟩ | ⟨rfl, h⟩
  · rcases k with ⟨y, rfl, k1, k2⟩ | ⟨rfl, k⟩
    · rcases Int.lt_trichotomy x y with z | z | z
      · exact absurd (k1 x z) h2
      · rw [z]
      · exact absurd (h1 y z) k2
    · exact absurd (k x) h2
  · rcases k with ⟨y, rfl, k1, k2⟩ | ⟨rfl, k⟩
    · exact absurd (h y) k2
    · rfl
theorem DF.len {f g : Int → Int} {zs : List Int} (h : DF f g zs) : zs = [] ∨ ∃ x, zs = [x] := by
  rcases h with ⟨x, e, _⟩ | ⟨e, _⟩
  · exact .inr ⟨x, e⟩
  · exact .inl e
/-- the rows of two programs -/
abbrev rowP (q : Int) (b : List Ins) : Int → Int := fun y => seP b y % q
/-- what is told, as data, and it depends on what the programs leave alone -/
def TD (q : Int) (b c : List Ins) (d : PyData) : Prop := (∃ x, (∀ y, y < x → seP b y % q = seP c y % q) ∧ seP b x % q ≠ seP c x % q ∧ d = .tuple [.str "dial", .int x, .int (seP b x % q), .int (seP c x % q)]) ∨ ((∀ y, seP b y % q = seP c y % q) ∧ shP b ≠ shP c ∧ d = .tuple [.str "shift", .int (shP b), .int (shP c)]) ∨ ((∀ y, seP b y % q = seP c y % q) ∧ shP b = shP c ∧ d = .none)
theorem TD.uniq {q : Int} {b c b' c' : List Ins} {d e : PyData} (t : TD q b c d) (u : TD q b' c' e) (hb : ∀ y, seP b y % q = seP b' y % q) (hc : ∀ y, seP c y % q = seP c' y % q) (sb : shP b = shP b') (sc : shP c = shP c') : d = e := by
  rcases t with ⟨x, h1, h2, rfl⟩ | ⟨h1, h2, rfl⟩ | ⟨h1, h2, rfl⟩
  · rcases u with ⟨y, k1, k2, rfl⟩ | ⟨k1, k2, rfl⟩ | ⟨k1, k2, rfl⟩
    · have : x = y := by
        rcases Int.lt_trichotomy x y with z | z | z
        · exact absurd ((hb x).trans ((k1 x z).trans (hc x).symm)) h2
        · exact z
        · exact absurd ((hb y).symm.trans ((h1 y z).trans (hc y))) k2
      subst this
      rw [hb, hc]
    · exact absurd ((hb x).trans ((k1 x).trans (hc x).symm)) h2
    · exact absurd ((hb x).trans ((k1 x).trans (hc x).symm)) h2
  · rcases u with ⟨y, k1, k2, rfl⟩ | ⟨k1, k2, rfl⟩ | ⟨k1, k2, rfl⟩
    · exact absurd ((hb y).symm.trans ((h1 y).trans (hc y))) k2
    · rw [sb, sc]
    · exact absurd (sb.trans (k2.trans sc.symm)) h2
  · rcases u with ⟨y, k1, k2, rfl⟩ | ⟨k1, k2, rfl⟩ | ⟨k1, k2, rfl⟩
    · exact absurd ((hb y).symm.trans ((h1 y).trans (hc y))) k2
    · exact absurd (sb.symm.trans (h2.trans sc)) k2
    · rfl
/-- a common beginning moves it alone -/
theorem DF.moved {q : Int} {a b c : List Ins} {zs : List Int} (h : DF (rowP q b) (rowP q c) zs) : DF (rowP q (a ++ b)) (rowP q (a ++ c)) (zs.map fun x => x + shP a) := by
  have e : ∀ d y, rowP q (a ++ d) y = (seP a y % q + rowP q d (y - shP a)) % q := fun d y => by
    show seP (a ++ d) y % q = (seP a y % q + seP d (y - shP a) % q) % q
    rw [seP_app, Int.add_emod]
  have back : ∀ y, rowP q (a ++ b) y = rowP q (a ++ c) y ↔ rowP q b (y - shP a) = rowP q c (y - shP a) := fun y => by
    rw [e, e]
    refine ⟨fun z => ?_, fun z => by rw [z]⟩
    have z1 : (seP a y % q + seP b (y - shP a) % q - seP a y % q) % q = (seP a y % q + seP c (y - shP a) % q - seP a y % q) % q := by
      rw [Int.sub_emod, z, ← Int.sub_emod]
    rw [show seP a y % q + seP b (y - shP a) % q - seP a y % q = seP b (y - shP a) % q by omega, show seP a y % q + seP c (y - shP a) % q - seP a y % q = seP c (y - shP a) % q by omega, Int.emod_emod, Int.emod_emod] at z1
    exact z1
  rcases h with ⟨x, rfl, h1, h2⟩ | ⟨rfl, h⟩
  · refine .inl ⟨x + shP a, rfl, fun y hy => (back y).mpr (h1 _ (by omega)), fun z => h2 ?_⟩
    have := (back _).mp z
    rwa [show x + shP a - shP a = x by omega] at this
  · exact .inr ⟨rfl, fun y => (back y).mpr (h _)⟩
end DR
namespace DR
open PySem PySem.Spec PyProof.Rows L2
theorem Told.tp {K : PySem.W.Frag} {H H' : Hp} {q : Int} {b c : List Ins} {v : V} (t : Told K H q b c v) (k : Tp H H') : Told K H' q b c v := by
  rcases t with ⟨T, x, e, h1, h2, h3⟩ | ⟨T, e, h1, h2, h3⟩ | h
  · exact .inl ⟨T, x, e, h1, h2, tp_t k h3⟩
  · exact .inr (.inl ⟨T, e, h1, h2, tp_t k h3⟩)
  · exact .inr (.inr h)
end DR
/-! ### two programs run step by step (k37) -/
namespace DR
open PySem PySem.Spec PyProof.Rows L2
def Rn (b : List Ins) : Prop := dpP b < 3 ∧ NP b ∧ RP 1000000 b ∧ exP b ≤ 100000
end DR
/-! ### a token taken for a number -/
namespace DR
open PySem PySem.Spec PyProof.Rows L2 TL
theorem one_at (x : Str) {y : Str} {c : Nat} (hy : tl y = [c]) : Builtin.Str.subAt x y 0 = decide ((tl x).head? = some c) := by
  rw [PySem.StrLaws.subAt_eq, len_tl y, hy]
  show (((tl x).drop 0).take 1 == tl y) = _
  rw [hy, List.drop_zero]
  cases tl x with
  | nil => rfl
  | cons d r =>
    show ([d] == [c]) = _
    rw [Bool.eq_iff_iff]
    simp
theorem tl_minus : tl ("-" : Str) = [45] := by decide +kernel
theorem tl_zero : tl ("0" : Str) = [48] := by decide +kernel
theorem less_minus (x : Str) : tl (Txt.removeprefix x "-") = dgL (tl x) := by
  unfold Txt.removeprefix
  rw [one_at x tl_minus]
  have l1 : ("-" : Str).length = 1 := by decide +kernel
  cases e : tl x with
  | nil =>
    rw [if_neg (by simp)]
    show tl x = _
    rw [e]
    rfl
  | cons d r =>
    by_cases h : d = 45
    · subst h
      rw [if_pos (by simp)]
      have lx : x.length = r.length + 1 := by rw [len_tl, e, List.length_cons]
      unfold Txt.affix
      rw [l1, lx]
      dsimp only
      rw [if_neg (by simp)]
      have := tl_strSub_end x 1
      rw [lx, e] at this
      rw [this]
      rfl
    · rw [if_neg (by simp [h])]
      show tl x = _
      rw [e]
      unfold dgL
      split
      · next z => cases z; exact absurd rfl h
      · rfl
theorem zero_first (x : Str) : Txt.startswith x "0" = decide ((tl x).head? = some 48) := by
  unfold Txt.startswith
  rw [one_at x tl_zero]
  have l1 : ("0" : Str).length = 1 := by decide +kernel
  rw [l1, len_tl]
  cases tl x with
  | nil => rfl
  | cons d r =>
    rw [show decide (0 + 1 ≤ (d :: r).length) = true from decide_eq_true (by rw [List.length_cons]; omega)]
    rfl
theorem in_digits (c : Nat) : decide (c ∈ ("0123456789" : Str).cps.toList) = decide (48 ≤ c ∧ c ≤ 57) := by
  have e : ("0123456789" : Str).cps.toList = [48, 49, 50, 51, 52, 53, 54, 55, 56, 57] := by decide +kernel
  rw [e, Bool.eq_iff_iff]
  simp
  omega
theorem all_digits (l : List Nat) : ((l.map fun c => decide (48 ≤ c ∧ c ≤ 57)).all id) = decide (NumText.AllDigits l) := by
  rw [Bool.eq_iff_iff, decide_eq_true_iff, List.all_map]
  simp only [List.all_eq_true, Function.comp, id, decide_eq_true_iff]
  exact Iff.rfl
/-! [f(sign) for sign in text] -/
theorem lcSign {tv : TE} {σ : L2.St} {H : Hp} {vs : List Nat} {i : Nat} {te : TE} {Q : VK} {z : Str} (g : Nat → Bool) (hz : z.length ≤ 100000) (hv : ∀ R : VK, R (.str z) H → tv σ H R)
    (hw : ∀ x, wipe ((wipe σ vs).set i (some x)) vs = wipe σ vs)
    (he : ∀ (c : Nat) (H2 : Hp) (R : VK), R (.bl (g c)) H2 → te ((wipe σ vs).set i (some (.str ⟨#[c]⟩))) H2 R)
    (k : ∀ D H2, Same H H2 → H D = none → H2 D = some (.lst ((z.cps.toList.map g).map V.bl)) → Q (.ref D) H2) : tLc (iStr tv) (gName i) tYes te vs σ H Q := by
  refine hv _ ⟨z, rfl, ?_⟩
  intro D nD
  have len : z.cps.toList.length = z.length := Array.length_toList
  refine lc_it (walk_str (z := z)) (fun m H2 => H2 D = some (.lst (((z.cps.toList.take m).map g).map V.bl)) ∧ Same H H2) ⟨upd_same, same_new nD⟩ (fun _ _ _ _ => trivial) ?_ ?_
  · rintro m v H2 H3 hm ⟨hD, s2⟩ ⟨rfl, c, hc, rfl⟩
    refine ⟨hw _, ?_⟩
    dsimp only [tYes]
    rw [if_pos rfl]
    refine he c H3 _ ?_
    have hcl : z.cps.toList[m]? = some c := by rw [Array.getElem?_toList]; exact hc
    refine ⟨_, hD, ?_, ?_⟩
    · rw [List.length_map, List.length_map, List.length_take]
      exact sl_lt (by omega)
    · refine ⟨?_, same_mut s2 nD⟩
      rw [upd_same, take_snoc hcl, List.map_append, List.map_append]
      rfl
  · rintro H2 ⟨hD, s2⟩
    rw [show z.cps.size = z.cps.toList.length from Array.length_toList.symm, List.take_length] at hD
    exact k D H2 s2 nD hD
end DR
/-! ### reading an instruction, step by step -/
namespace DR
open PySem PySem.Spec PyProof.Rows L2
/-- what stands inside a repeat, where as many repeats may still stand inside one another -/
def inn (T : List Str) : Nat → RS → Rd (List Ins)
  | 0, s => .bad s.p
  | k + 1, s => rdL T (rdI T k) (T.length + 1) s
theorem rdI_inn (T : List Str) : ∀ (k : Nat) (s : RS), rdI T k s = rdO T k (inn T k) s
  | 0, s => by rw [rdI]; rfl
  | k + 1, s => by rw [rdI]; rfl
def rdCat (b : List Ins) : Rd (List Ins) → Rd (List Ins)
  | .bad q => .bad q
  | .ok is s => .ok (b ++ is) s
theorem rdCat_nil (r : Rd (List Ins)) : rdCat [] r = r := by cases r <;> rfl
theorem rdCat_cat (a b : List Ins) (r : Rd (List Ins)) : rdCat a (rdCat b r) = rdCat (a ++ b) r := by
  cases r with
  | bad q => rfl
  | ok is s => exact congrArg (fun l => Rd.ok l s) (List.append_assoc a b is).symm
theorem rdL_none {T : List Str} {one : RS → Rd Ins} {f : Nat} {s : RS} (h : T[s.p]? = none) : rdL T one (f + 1) s = .bad s.p := by
  unfold rdL
  rw [h]
theorem rdL_end {T : List Str} {one : RS → Rd Ins} {f : Nat} {s : RS} (h : T[s.p]? = some "]") : rdL T one (f + 1) s = .ok [] ⟨s.p + 1, s.n, s.r⟩ := by
  unfold rdL
  rw [h]
  exact if_pos rfl
theorem rdL_bad {T : List Str} {one : RS → Rd Ins} {f : Nat} {s : RS} {t : Str} {q : Nat} (h : T[s.p]? = some t) (ht : t ≠ "]") (h1 : one s = .bad q) : rdL T one (f + 1) s = .bad q := by
  unfold rdL
  rw [h]
  dsimp only
  rw [if_neg ht, h1]
theorem rdL_more {T : List Str} {one : RS → Rd Ins} {f : Nat} {s s1 : RS} {t : Str} {i : Ins} (h : T[s.p]? = some t) (ht : t ≠ "]") (h1 : one s = .ok i s1) : rdL T one (f + 1) s = rdCat [i] (rdL T one f s1) := by
  rw [show rdL T one (f + 1) s = _ from rfl]
  conv => lhs; unfold rdL
  rw [h]
  dsimp only
  rw [if_neg ht, h1]
  dsimp only
  cases rdL T one f s1 <;> rfl
/-- with a reader at p nothing but the reader has changed: tuples stay -/
theorem kp_tpI {H H' : Hp} {p C dx : Addr} {fs : List (Str × V)} (e : H p = some (.ins C dx fs)) (k : Kp p H H') : Tp H H' := by
  refine ⟨fun b xs z => k b _ (ne_of z e (by intro y; cases y)) z, fun b o u z => k b _ (ne_of z e (by intro y; cases y)) z⟩
theorem kp_free {H H' : Hp} {p : Addr} {o' : HO} (e' : H' p = some o') (k : Kp p H H') {a : Addr} (n : H' a = none) : H a = none := by
  cases h : H a with
  | none => rfl
  | some o =>
    have z : a ≠ p := fun z => by
      rw [z, e'] at n
      cases n
    rw [k a o z h] at n
    cases n
end DR
namespace DR
open PySem PySem.Spec PyProof.Rows L2 TL
theorem spl_short {S : List Nat} : ∀ {l : List Nat} {k : Nat} {acc p : List Nat}, p ∈ spl S k acc l → p.length ≤ acc.length + l.length
  | [], k, acc, p, h => by
    cases k <;> (unfold spl at h; rw [List.mem_singleton.mp h]; exact Nat.le_add_right _ _)
  | c :: r, 0, acc, p, h => by
    unfold spl at h
    rw [List.length_cons]
    split at h
    · rcases List.mem_cons.mp h with rfl | h
      · omega
      · have := spl_short h
        rw [List.length_nil] at this
        omega
    · have := spl_short h
      rw [List.length_append, List.length_singleton] at this
      omega
  | c :: r, k + 1, acc, p, h => by
    unfold spl at h
    have := spl_short h
    rw [List.length_cons]
    omega
theorem tks_short {t u : Str} (h : u ∈ tksOf t) : u.length ≤ t.length := by
  unfold tksOf at h
  split at h
  · exact absurd h List.not_mem_nil
  · have m : tl u ∈ (Txt.split t " ").map tl := List.mem_map.mpr ⟨u, h, rfl⟩
    rw [split_spl t " " (by rw [tl_blank]; simp) (kind_ok (by decide +kernel))] at m
    have := spl_short m
    rw [List.length_nil] at this
    rw [len_tl, len_tl t]
    omega
theorem tks_few (t : Str) : (tksOf t).length ≤ t.length + 2 := by
  unfold tksOf
  split
  · exact Nat.zero_le _
  · exact PyProof.Rows.split_le t " "
theorem rdP_end {T : List Str} {f : Nat} {s : RS} (h : s.p = T.length) : rdP T (f + 1) s = .ok [] s := by
  unfold rdP
  exact if_pos h
theorem rdP_bad {T : List Str} {f : Nat} {s : RS} {q : Nat} (h : s.p ≠ T.length) (h1 : rdI T 2 s = .bad q) : rdP T (f + 1) s = .bad q := by
  unfold rdP
  rw [if_neg h, h1]
theorem rdP_more {T : List Str} {f : Nat} {s s1 : RS} {i : Ins} (h : s.p ≠ T.length) (h1 : rdI T 2 s = .ok i s1) : rdP T (f + 1) s = rdCat [i] (rdP T f s1) := by
  conv => lhs; unfold rdP
  rw [if_neg h, h1]
  dsimp only
  cases rdP T f s1 <;> rfl
end DR
/-! ### the tokens read one by one, with a stack -/
namespace DR
open PySem PySem.Spec PyProof.Rows L2 TL
inductive Want where
  | word
  | count (wd : Str)
  | bracket (c : Int)
/-- what was read so far: what may stand next, the instructions of the innermost program, the programs around it -/
structure Mst where
  w : Want
  cur : List Ins
  stk : List (List Ins × Int)
  n : Nat
  r : Nat
end DR
/-! ### programs within the bounds of the document -/
namespace DR
open PySem PySem.Spec PyProof.Rows L2
structure GdP (b : List Ins) (k N m : Nat) : Prop where
  d : dpP b ≤ k
  g : CtP b
  c : cnP b ≤ N
  r : rpP b ≤ m
theorem ctP_app : ∀ {a b : List Ins}, CtP a → CtP b → CtP (a ++ b)
  | [], b, _, h => h
  | i :: r, b, h, h2 => by
    rw [List.cons_append, CtP_cons]
    rw [CtP_cons] at h
    exact ⟨h.1, ctP_app h.2 h2⟩
theorem rpP_app : ∀ a b : List Ins, rpP (a ++ b) = rpP a + rpP b
  | [], b => by rw [List.nil_append, rpP_nil, Nat.zero_add]
  | i :: r, b => by rw [List.cons_append, rpP_cons, rpP_cons, rpP_app r b, Nat.add_assoc]
theorem GdP.app {b c : List Ins} {k j N M m l : Nat} (h : GdP b k N m) (h2 : GdP c j M l) : GdP (b ++ c) (max k j) (N + M) (m + l) :=
  ⟨by rw [dpP_app]; have := h.d; have := h2.d; omega, ctP_app h.g h2.g, by rw [cnP_app]; have := h.c; have := h2.c; omega, by rw [rpP_app]; have := h.r; have := h2.r; omega⟩
theorem GdP.rep {b : List Ins} {k N m : Nat} {n : Int} (h : GdP b k N m) (h0 : 0 ≤ n) (h9 : n ≤ 10 ^ 30) : GdP [.rep n b] (k + 1) (N + 1) (m + 1) := by
  refine ⟨?_, ?_, ?_, ?_⟩
  · rw [dpP_cons, dpI, dpP_nil']
    have := h.d
    omega
  · rw [CtP_cons, CtI]
    exact ⟨⟨h0, h9, h.g⟩, by unfold CtP; trivial⟩
  · rw [cnP_cons, cnI, cnP_nil']
    have := h.c
    omega
  · rw [rpP_cons, rpI, rpP_nil]
    have := h.r
    omega
theorem GdP.up {b : List Ins} {k j N M m l : Nat} (h : GdP b k N m) (h1 : k ≤ j) (h2 : N ≤ M) (h3 : m ≤ l) : GdP b j M l := ⟨Nat.le_trans h.d h1, h.g, Nat.le_trans h.c h2, Nat.le_trans h.r h3⟩
theorem flat_gd : ∀ {b : List Ins} {N R : Nat}, Flat b N R → R ≤ 10 ^ 30 → CtP b ∧ rpP b = 0
  | [], _, _, _, _ => ⟨by unfold CtP; trivial, rpP_nil⟩
  | i :: r, N, R, h, hR => by
    have h1 := h.flat i List.mem_cons_self
    have h2 := h.cnt i List.mem_cons_self
    have ih := flat_gd (b := r) (N := N) (R := R) ⟨by have := h.len; rw [List.length_cons] at this; omega, fun j hj => h.flat j (List.mem_cons_of_mem _ hj), fun j hj => h.cnt j (List.mem_cons_of_mem _ hj)⟩ hR
    rw [CtP_cons, rpP_cons, ih.2]
    cases i with
    | step c =>
      rw [CtI, rpI]
      exact ⟨⟨Nat.le_trans h2 hR, ih.1⟩, rfl⟩
    | turn c =>
      rw [CtI, rpI]
      exact ⟨⟨Nat.le_trans h2 hR, ih.1⟩, rfl⟩
    | rep n b => exact absurd h1 id
theorem Flat.gd {b : List Ins} {N R : Nat} (h : Flat b N R) (hR : R ≤ 10 ^ 30) : GdP b 0 N 0 := ⟨Nat.le_of_eq h.dp, (flat_gd h hR).1, by rw [h.cn]; exact h.len, Nat.le_of_eq (flat_gd h hR).2⟩
theorem ct_wp : ∀ {b : List Ins} (N : Nat), N ≤ 1024 → cnP b ≤ N → CtP b → WP b
  | [], _, _, _, _ => by unfold WP; trivial
  | i :: r, N, hN, hc, h => by
    rw [CtP_cons] at h
    rw [cnP_cons] at hc
    rw [WP_cons]
    have big : (10 : Nat) ^ 30 ≤ 2 ^ 100 := by decide +kernel
    refine ⟨?_, ct_wp N hN (by omega) h.2⟩
    cases i with
    | step c =>
      rw [CtI] at h
      rw [WI]
      exact Nat.le_trans h.1 big
    | turn c =>
      rw [CtI] at h
      rw [WI]
      exact Nat.le_trans h.1 big
    | rep n b =>
      rw [CtI] at h
      rw [cnI] at hc
      rw [WI]
      have := len_cnP b
      exact ⟨Nat.le_trans (show n.natAbs ≤ 10 ^ 30 by omega) big, by omega, ct_wp N hN (by omega) h.1.2.2⟩
theorem GdP.ok {b : List Ins} {k N m : Nat} (h : GdP b k N m) (hN : N ≤ 1024) : PrOk b k N := ⟨h.d, ct_wp N hN h.c h.g, h.c⟩
def sp__law_bodyG (K : PySem.W.Frag) : Sp := fun vs H Q _ => ∃ (p c : Addr) (most reach : Int) (n : Nat), vs = [.ref p, .int most, .int reach] ∧ 0 ≤ most ∧ most ≤ 100 ∧ 0 ≤ reach ∧ reach.natAbs < 10 ^ 90 ∧ PenAt H p c n ∧ n < 2 ^ 39 ∧
  ∀ D xs b H', H D = none → Kp p H H' → PenAt H' p c (n + 3 * most.toNat + 1) → H' D = some (.lst xs) → FIs K H' xs b → Flat b most.toNat (max reach.natAbs 3) → Q (.ref D) H'
end DR
/-! ### texts of programs -/
namespace DR
open PySem PySem.Spec PyProof.Rows L2 TL
theorem lg_ct {c : Int} (h : c.natAbs ≤ 10 ^ 30) : c.natAbs.log2 < 1920 := by
  by_cases z : c.natAbs = 0
  · rw [z]
    decide
  · exact (Nat.log2_lt z).mpr (Nat.lt_of_le_of_lt h (by decide +kernel))
theorem tkP_snoc {b : List Ins} {j : Nat} {i : Ins} (h : b[j]? = some i) : tkP (b.take (j + 1)) = tkP (b.take j) ++ tkI i := by
  rw [take_snoc h, tkP_app, tkP_cons, tkP_nil, List.append_nil]
theorem cnP_tk (b : List Ins) (j : Nat) : cnP (b.take j) ≤ cnP b := by
  have := cnP_app (b.take j) (b.drop j)
  rw [List.take_append_drop] at this
  omega
theorem ctP_tk {b : List Ins} (h : CtP b) : ∀ j : Nat, CtP (b.take j) := by
  induction b with
  | nil => intro j; rw [List.take_nil]; exact h
  | cons i r ih =>
    intro j
    rw [CtP_cons] at h
    cases j with
    | zero => rw [List.take_zero]; unfold CtP; trivial
    | succ j =>
      rw [List.take_succ_cons, CtP_cons]
      exact ⟨h.1, ih h.2 j⟩
/-- pieces of a text: each some tokens -/
theorem piece_len : ∀ {gs : List (List Str)}, ((gs.map jn).map fun t => t.length).sum ≤ (gs.flatten.map fun t => t.length + 1).sum
  | [] => Nat.le_refl _
  | g :: r => by
    have := piece_len (gs := r)
    have := jn_len g
    rw [List.map_cons, List.map_cons, List.sum_cons, List.flatten_cons, List.map_append, List.sum_append]
    omega
theorem piece_few : ∀ {gs : List (List Str)}, (∀ g ∈ gs, g ≠ []) → gs.length ≤ gs.flatten.length
  | [], _ => Nat.le_refl _
  | g :: r, h => by
    have := piece_few (gs := r) fun x hx => h x (List.mem_cons_of_mem _ hx)
    have := List.length_pos_iff.mpr (h g List.mem_cons_self)
    rw [List.flatten_cons, List.length_append, List.length_cons]
    omega
theorem jn_inner {b : List Ins} (h : b ≠ []) : jn ([("[" : Str)] ++ (tkP b ++ [("]" : Str)])) = ("[ " : Str) ++ txP b ++ (" ]" : Str) := by
  have hb : tkP b ≠ [] := by
    cases b with
    | nil => exact absurd rfl h
    | cons i r =>
      rw [tkP_cons]
      exact fun z => tkI_ne i (List.append_eq_nil_iff.mp z).1
  rw [jn_two (by simp) (by simp), jn_two hb (by simp), jn_one, jn_one]
  refine ext_tl ?_
  have e1 : tl ("[ " : Str) = tl ("[" : Str) ++ tl (" " : Str) := by decide +kernel
  have e2 : tl (" ]" : Str) = tl (" " : Str) ++ tl ("]" : Str) := by decide +kernel
  simp only [tl_append, e1, e2, List.append_assoc, txP]
theorem jn_empty : jn ([("[" : Str)] ++ (tkP [] ++ [("]" : Str)])) = ("[ ]" : Str) := by
  rw [tkP_nil]
  decide +kernel
/-! the data of a program that is lists all the way down -/
mutual
def ldI : Ins → PyData
  | .step c => .tuple [.str "step", .int c]
  | .turn c => .tuple [.str "turn", .int c]
  | .rep n b => .tuple [.str "repeat", .int n, .list (ldA b)]
def ldA : List Ins → List PyData
  | [] => []
  | i :: r => ldI i :: ldA r
end
section
variable {K : PySem.W.Frag} {H0 H H' : Hp}
mutual
theorem NwI.dp : ∀ {x : V} {i : Ins}, NwI K H0 H x i → Dp K H x (ldI i)
  | _, _, .step h => by
    rw [ldI]
    exact .tup h (.cons (.str _) (.cons (.int _) .nil))
  | _, _, .turn h => by
    rw [ldI]
    exact .tup h (.cons (.str _) (.cons (.int _) .nil))
  | _, _, .rep h _ e q => by
    rw [ldI]
    exact .tup h (.cons (.str _) (.cons (.int _) (.cons (.lst (SqL.of e) (NwP.dpA q)) .nil)))
theorem NwP.dpA : ∀ {xs : List V} {b : List Ins}, NwP K H0 H xs b → DpAll K H xs (ldA b)
  | _, _, .nil => by
    rw [ldA]
    exact .nil
  | _, _, .cons h t => by
    rw [ldA]
    exact .cons (NwI.dp h) (NwP.dpA t)
end
mutual
theorem isI_ld : ∀ i : Ins, IsI (ldI i) i
  | .step c => by rw [ldI]; exact .step c
  | .turn c => by rw [ldI]; exact .turn c
  | .rep n b => by rw [ldI]; exact .rep n (.lst (isA_ld b))
theorem isA_ld : ∀ b : List Ins, IsAll (ldA b) b
  | [] => by rw [ldA]; exact .nil
  | i :: r => by rw [ldA]; exact .cons (isI_ld i) (isA_ld r)
end
theorem NwP.dp {a : Addr} {xs : List V} {b : List Ins} (h : NwP K H0 H xs b) (e : H a = some (.lst xs)) : Dp K H (.ref a) (.list (ldA b)) := .lst (SqL.of e) h.dpA
end
/-! [f(part) for part in program], each part made anew or kept -/
end DR
namespace DR
open PySem PySem.Spec PyProof.Rows L2
/-! ### tuples of any data, cut and put together -/
theorem all_fits {n k : Nat} : ∀ (ds : List PyData), (∀ d ∈ ds, Fits n k d) → PyData.showableAll ds = true ∧ PyData.hasDictAll ds = false ∧ PyData.depthAll ds ≤ k ∧ ((ds.map PyData.shown).map (·.length)).sum ≤ n * ds.length
  | [], _ => ⟨rfl, rfl, Nat.zero_le _, Nat.zero_le _⟩
  | d :: r, h => by
    have a := h d List.mem_cons_self
    obtain ⟨b1, b2, b3, b4⟩ := all_fits r fun x hx => h x (List.mem_cons_of_mem _ hx)
    refine ⟨?_, ?_, ?_, ?_⟩
    · show (d.showable && PyData.showableAll r) = true
      rw [a.sh, b1]
      rfl
    · show (d.hasDict || PyData.hasDictAll r) = false
      rw [a.nd, b2]
      rfl
    · show max d.depth (PyData.depthAll r) ≤ k
      have := a.dp
      omega
    · rw [List.map_cons, List.map_cons, List.sum_cons, List.length_cons, Nat.mul_add, Nat.mul_one]
      have := a.ln
      omega
theorem shown_map : ∀ ds : List PyData, PyData.shownAll ds = ds.map PyData.shown
  | [] => rfl
  | d :: r => by
    show d.shown :: PyData.shownAll r = _
    rw [shown_map r]
    rfl
section
variable {K : PySem.W.Frag} {H0 H H' : Hp} {v u : V} {n m : Nat} {Q : VK}
def TV (K : PySem.W.Frag) (H0 H : Hp) (v : V) (n : Nat) : Prop := ∃ (a : Addr) (xs : List V) (ds : List PyData), v = .ref a ∧ SqT K (er H0 H) a xs ∧ DpAll K (er H0 H) xs ds ∧ (∀ d ∈ ds, Nice 25000 3 d) ∧ ds.length ≤ n
theorem TV.same (s : Same H H') (h : TV K H0 H v n) : TV K H0 H' v n := by
  obtain ⟨a, xs, ds, e, h1, h2, h3⟩ := h
  exact ⟨a, xs, ds, e, same_t (er_same s) h1, DpAll.same (er_same s) h2, h3⟩
theorem TV.mono (h : TV K H0 H v n) (hm : n ≤ m) : TV K H0 H v m := by
  obtain ⟨a, xs, ds, e, h1, h2, h3, h4⟩ := h
  exact ⟨a, xs, ds, e, h1, h2, h3, Nat.le_trans h4 hm⟩
theorem TV.sq (h : TV K H0 H v n) : ∃ a xs, v = .ref a ∧ SqT K H a xs ∧ xs.length ≤ n := by
  obtain ⟨a, xs, ds, e, h1, h2, _, h4⟩ := h
  exact ⟨a, xs, e, same_t (er_sub H0 H) h1, by rw [DpAll.len h2]; exact h4⟩
end
def FN (n k : Nat) (K : PySem.W.Frag) (H : Hp) (v : V) : Prop := ∃ d, Dp K H v d ∧ Nice n k d
section
variable {K : PySem.W.Frag} {H0 H H' : Hp} {v w x : V} {n k : Nat} {b : Addr}
theorem FN.same (e : Same H H') (h : FN n k K H v) : FN n k K H' v := h.elim fun d z => ⟨d, Dp.same e z.1, z.2⟩
theorem FN.up {n' k' : Nat} (h : FN n k K H v) (a : n ≤ n') (c : k ≤ k') : FN n' k' K H v := h.elim fun d z => ⟨d, z.1, z.2.up a c⟩
theorem fits_listN {m j : Nat} {ds : List PyData} (h : ∀ d ∈ ds, Fits m j d) : Fits (m * ds.length + 2 * ds.length + 3) (j + 1) (.list ds) := by
  obtain ⟨a, b, c, e⟩ := all_fits ds h
  refine ⟨a, b, Nat.succ_le_succ c, ?_⟩
  show (listText (PyData.shownAll ds)).length ≤ _
  have t := listText_len_le (PyData.shownAll ds)
  rw [shown_map] at t ⊢
  rw [List.length_map] at t
  omega
end
end DR
/-! ### texts: their signs, text * int, repr of texts -/
namespace L2
open PySem PySem.Spec PyProof.Rows PySem.P
theorem op_mul_txt {X : Cx} : OpR X (binaryOp .Mult) (fun x y H Q => ∃ (z : Str) (k : Int), x = .str z ∧ y = .int k ∧ MulOk z k ∧ Q (.str (Txt.mul z k)) H) := by
  intro pins s σ H x y v u Q I rx ry h
  obtain ⟨z, k, rfl, rfl, ok, q⟩ := h
  obtain ⟨t, rfl⟩ := rx
  obtain ⟨t2, rfl⟩ := ry
  exact SB.mul ok fun t' j => ⟨.str _, H, I.tok _, ⟨_, rfl⟩, q⟩
end L2
namespace DR
open PySem PySem.Spec PyProof.Rows L2 TL
/-- signs below 128 -/
def Low (t : Str) : Prop := ∀ c ∈ tl t, c < 128
instance (t : Str) : Decidable (Low t) := by unfold Low; exact inferInstance
theorem low_joinL : ∀ {ps : List (List Nat)}, (∀ p ∈ ps, ∀ c ∈ p, c < 128) → ∀ c ∈ joinL [32] ps, c < 128
  | [], _, c, h => absurd h List.not_mem_nil
  | [p], hp, c, h => hp p List.mem_cons_self c h
  | p :: q :: r, hp, c, h => by
    rw [joinL_cons (by simp)] at h
    rcases List.mem_append.mp h with h | h
    · exact hp p List.mem_cons_self c h
    · rcases List.mem_append.mp h with h | h
      · rw [List.mem_singleton.mp h]
        decide
      · exact low_joinL (fun x hx => hp x (List.mem_cons_of_mem _ hx)) c h
theorem low_jn {ts : List Str} (h : ∀ t ∈ ts, Low t) : Low (jn ts) := fun c hc => by
  rw [tl_jn] at hc
  refine low_joinL (fun p hp => ?_) c hc
  obtain ⟨t, ht, rfl⟩ := List.mem_map.mp hp
  exact h t ht
theorem low_ct (c : Int) : Low (ctS c) := by
  intro x hx
  by_cases hc : 0 ≤ c
  · obtain ⟨n, rfl⟩ := Int.eq_ofNat_of_zero_le hc
    rw [ct_pos] at hx
    have := numL_digits n x hx
    omega
  · obtain ⟨n, hn0, rfl⟩ : ∃ n : Nat, 0 < n ∧ c = -(n : Int) := ⟨c.natAbs, by omega, by omega⟩
    rw [ct_neg hn0] at hx
    rcases List.mem_cons.mp hx with rfl | hx
    · decide
    · have := numL_digits n x hx
      omega
theorem low_words : Low "step" ∧ Low "turn" ∧ Low "repeat" ∧ Low "[" ∧ Low "]" := by decide +kernel
mutual
theorem low_tkI : ∀ {i : Ins} {t : Str}, t ∈ tkI i → Low t
  | .step c, t, h => by
    unfold tkI at h
    rcases List.mem_cons.mp h with rfl | h
    · exact low_words.1
    · rw [List.mem_singleton.mp h]
      exact low_ct c
  | .turn c, t, h => by
    unfold tkI at h
    rcases List.mem_cons.mp h with rfl | h
    · exact low_words.2.1
    · rw [List.mem_singleton.mp h]
      exact low_ct c
  | .rep n b, t, h => by
    rw [tkI] at h
    rcases List.mem_append.mp h with h | h
    · rcases List.mem_cons.mp h with rfl | h
      · exact low_words.2.2.1
      rcases List.mem_cons.mp h with rfl | h
      · exact low_ct n
      rw [List.mem_singleton.mp h]
      exact low_words.2.2.2.1
    · rcases List.mem_append.mp h with h | h
      · exact low_tkP h
      · rw [List.mem_singleton.mp h]
        exact low_words.2.2.2.2
theorem low_tkP : ∀ {b : List Ins} {t : Str}, t ∈ tkP b → Low t
  | [], t, h => by
    rw [tkP_nil] at h
    exact absurd h List.not_mem_nil
  | i :: r, t, h => by
    rw [tkP_cons] at h
    rcases List.mem_append.mp h with h | h
    · exact low_tkI h
    · exact low_tkP h
end
theorem fits_txt {t : Str} {n : Nat} (h : Low t) (hn : t.length ≤ n) : Fits (10 * n + 2) 0 (.str t) := by
  refine ⟨rfl, rfl, Nat.le_refl _, ?_⟩
  have : (PyData.str t).shown = reprText t := rfl
  rw [this]
  refine Nat.le_trans (PySem.StrLaws.reprText_len t fun c hc => ?_) (by omega)
  exact Nat.lt_trans (h c hc) (by decide)
/-- a program that is lists all the way down -/
def AllL (K : PySem.W.Frag) (H : Hp) (v : V) (b : List Ins) : Prop := ∃ a xs, v = .ref a ∧ H a = some (.lst xs) ∧ NwP K (fun _ => none) H xs b
theorem AllL.same {K : PySem.W.Frag} {H H' : Hp} {v : V} {b : List Ins} (s : Same H H') (h : AllL K H v b) : AllL K H' v b := by
  obtain ⟨a, xs, rfl, h1, h2⟩ := h
  exact ⟨a, xs, rfl, s _ _ h1, h2.same s⟩
theorem AllL.pv {K : PySem.W.Frag} {H : Hp} {v : V} {b : List Ins} (h : AllL K H v b) : PV K H v b := by
  obtain ⟨a, xs, rfl, h1, h2⟩ := h
  exact pv_list (SqL.of h1) h2.ivs
theorem AllL.dp {K : PySem.W.Frag} {H : Hp} {v : V} {b : List Ins} (h : AllL K H v b) : Dp K H v (.list (ldA b)) := by
  obtain ⟨a, xs, rfl, h1, h2⟩ := h
  exact h2.dp h1
end DR
/-! ### pieces of texts; a token that is taken for a count -/
namespace DR
open PySem PySem.Spec PyProof.Rows L2 TL
theorem sIx_nat (n d k : Nat) : HT.sIx n d (some (k : Int)) = min k n := by
  unfold HT.sIx
  dsimp only
  rw [if_neg (by omega)]
  rfl
theorem sIx_none (n d : Nat) : HT.sIx n d none = d := rfl
/-! [sign for sign in text if p(sign)] -/
/-! the law's own reader -/
end DR
/-! ### the law's own reader, token by token: its lists -/
namespace DR
open PySem PySem.Spec PyProof.Rows L2 TL
/-- these lists are still written to: no finished part holds them -/
def Opn (l : List Addr) : Hp := fun L => if L ∈ l then some (.lst []) else none
theorem opn_not {l : List Addr} {L : Addr} (h : Opn l L = none) : L ∉ l := fun z => by
  unfold Opn at h
  rw [if_pos z] at h
  cases h
theorem opn_free {l : List Addr} {L : Addr} (h : L ∉ l) : Opn l L = none := if_neg h
section
variable {K : PySem.W.Frag} {H H' : Hp} {l l' : List Addr} {D : Addr}
mutual
theorem NwI.more (nD : H D = none) : ∀ {x : V} {i : Ins}, NwI K (Opn l) H x i → NwI K (Opn (D :: l)) H x i
  | _, _, .step h => .step h
  | _, _, .turn h => .turn h
  | _, _, .rep h n e q => .rep h (opn_free fun z => by
      rcases List.mem_cons.mp z with rfl | z
      · rw [nD] at e
        cases e
      · exact opn_not n z) e (NwP.more nD q)
theorem NwP.more (nD : H D = none) : ∀ {xs : List V} {b : List Ins}, NwP K (Opn l) H xs b → NwP K (Opn (D :: l)) H xs b
  | _, _, .nil => .nil
  | _, _, .cons h t => .cons (NwI.more nD h) (NwP.more nD t)
end
theorem NwP.sub (hs : ∀ a ∈ l', a ∈ l) {xs : List V} {b : List Ins} (h : NwP K (Opn l) H xs b) : NwP K (Opn l') H xs b := NwP.less (fun a n => opn_free fun z => opn_not n (hs a z)) h
theorem NwP.put {a : Addr} {ys zs xs : List V} {b : List Ins} (hl : a ∈ l) (ha : H a = some (.lst ys)) (h : NwP K (Opn l) H xs b) : NwP K (Opn l) (upd H a (.lst zs)) xs b :=
  h.stay (fun _ _ g => tp_t (tp_lst ha) g) fun L xs n e => by
    have : L ≠ a := fun z => opn_not n (z ▸ hl)
    rw [upd_ne this]
    exact e
/-- the bodies that are still open, the innermost first -/
inductive Bds (K : PySem.W.Frag) (G H : Hp) : List Addr → List (List Ins) → Prop
  | nil : Bds K G H [] []
  | cons {a : Addr} {r : List Addr} {xs : List V} {b : List Ins} {bs : List (List Ins)} : H a = some (.lst xs) → NwP K G H xs b → Bds K G H r bs → Bds K G H (a :: r) (b :: bs)
theorem Bds.same {G : Hp} (e : Same H H') : ∀ {r : List Addr} {bs : List (List Ins)}, Bds K G H r bs → Bds K G H' r bs
  | _, _, .nil => .nil
  | _, _, .cons h q t => .cons (e _ _ h) (q.same e) (Bds.same e t)
theorem Bds.more (nD : H D = none) : ∀ {r : List Addr} {bs : List (List Ins)}, Bds K (Opn l) H r bs → Bds K (Opn (D :: l)) H r bs
  | _, _, .nil => .nil
  | _, _, .cons h q t => .cons h (q.more nD) (Bds.more nD t)
theorem Bds.sub (hs : ∀ a ∈ l', a ∈ l) : ∀ {r : List Addr} {bs : List (List Ins)}, Bds K (Opn l) H r bs → Bds K (Opn l') H r bs
  | _, _, .nil => .nil
  | _, _, .cons h q t => .cons h (q.sub hs) (Bds.sub hs t)
theorem Bds.put {a : Addr} {ys zs : List V} (hl : a ∈ l) (ha : H a = some (.lst ys)) : ∀ {r : List Addr} {bs : List (List Ins)}, a ∉ r → Bds K (Opn l) H r bs → Bds K (Opn l) (upd H a (.lst zs)) r bs
  | [], _, _, .nil => .nil
  | c :: _, _, n, .cons h q t => .cons (by
      have : c ≠ a := fun z => n (z ▸ List.mem_cons_self)
      rw [upd_ne this]
      exact h) (q.put hl ha) (Bds.put hl ha (fun z => n (List.mem_cons_of_mem _ z)) t)
end
def rsW : Want → List Int
  | .word => []
  | .count _ => []
  | .bracket c => [c]
/-- the rounds of the open repeats, the innermost first -/
def rsOf (s : Mst) : List Int := rsW s.w ++ s.stk.map (·.2)
def dpW : Want → Nat
  | .word => 0
  | .count w => if w = "repeat" then 1 else 0
  | .bracket _ => 1
structure LR (K : PySem.W.Frag) (HT H : Hp) (BO RO : Addr) (bs : List Addr) (m : Nat) (s : Mst) : Prop where
  bo : H BO = some (.lst (bs.reverse.map V.ref))
  ro : H RO = some (.lst ((rsOf s).reverse.map V.int))
  bd : Bds K (Opn (BO :: RO :: bs)) H bs (s.cur :: s.stk.map (·.1))
  nd : (BO :: RO :: bs).Nodup
  nw : ∀ a ∈ BO :: RO :: bs, HT a = none
  sm : Same HT H
  n : s.n ≤ 100
  dp : s.stk.length + dpW s.w ≤ 2
  sz : ∀ b ∈ s.cur :: s.stk.map (·.1), b.length ≤ m
section
variable {K : PySem.W.Frag} {HT H : Hp} {BO RO : Addr} {bs : List Addr} {m : Nat} {s : Mst}
theorem LR.up (L : LR K HT H BO RO bs m s) {m' : Nat} (h : m ≤ m') : LR K HT H BO RO bs m' s := ⟨L.bo, L.ro, L.bd, L.nd, L.nw, L.sm, L.n, L.dp, fun b hb => Nat.le_trans (L.sz b hb) h⟩
theorem LR.same {H' : Hp} (e : Same H H') (L : LR K HT H BO RO bs m s) : LR K HT H' BO RO bs m s := ⟨e _ _ L.bo, e _ _ L.ro, L.bd.same e, L.nd, L.nw, L.sm.trans e, L.n, L.dp, L.sz⟩
theorem LR.apart (L : LR K HT H BO RO bs m s) : BO ≠ RO ∧ BO ∉ bs ∧ RO ∉ bs ∧ bs.Nodup := by
  have h1 := List.nodup_cons.mp L.nd
  have h2 := List.nodup_cons.mp h1.2
  exact ⟨fun z => h1.1 (z ▸ List.mem_cons_self), fun z => h1.1 (List.mem_cons_of_mem _ z), h2.1, h2.2⟩
/-- a step or a turn is read -/
theorem LR.ins {w : Want} {cur : List Ins} {stk : List (List Ins × Int)} {n r : Nat} {i : Ins} {b : Addr} {bs : List Addr} {T : Addr} {o : HO} {ys : List V} (L : LR K HT H BO RO (b :: bs) m ⟨w, cur, stk, n, r⟩) (hw : rsW w = []) (nT : H T = none) (hb : H b = some (.lst ys)) (hi : NwI K (Opn (BO :: RO :: b :: bs)) (upd H T o) (.ref T) i) :
    LR K HT (upd (upd H T o) b (.lst (ys ++ [V.ref T]))) BO RO (b :: bs) (m + 1) ⟨.word, cur ++ [i], stk, n, r⟩ := by
  have s1 := same_new nT (o := o)
  have L1 := L.same s1
  obtain ⟨a1, a2, a3, a4⟩ := L1.apart
  have hb1 := s1 _ _ hb
  have inb : b ∈ BO :: RO :: b :: bs := by simp
  have nb : b ∉ bs := (List.nodup_cons.mp a4).1
  refine ⟨?_, ?_, ?_, L.nd, L.nw, same_mut L1.sm (L.nw b inb), L.n, ?_, ?_⟩
  · rw [upd_ne fun z => a2 (by rw [z]; exact List.mem_cons_self)]
    exact L1.bo
  · rw [upd_ne fun z => a3 (by rw [z]; exact List.mem_cons_self)]
    have := L1.ro
    unfold rsOf at this ⊢
    rw [hw] at this
    exact this
  · have hbd := L1.bd
    cases hbd with
    | cons h q t =>
      rw [hb1] at h
      cases h
      exact .cons upd_same ((q.app (.cons hi .nil)).put inb hb1) (t.put inb hb1 nb)
  · have := L.dp
    show stk.length + 0 ≤ 2
    change stk.length + dpW w ≤ 2 at this
    omega
  · intro q hq
    rcases List.mem_cons.mp hq with rfl | hq
    · have : cur.length ≤ m := L.sz cur (by simp)
      rw [List.length_append]
      exact Nat.succ_le_succ this
    · exact Nat.le_succ_of_le (L.sz q (List.mem_cons_of_mem _ hq))
/-- a repeat begins -/
theorem LR.push {cur : List Ins} {stk : List (List Ins × Int)} {n r : Nat} {c : Int} {D : Addr} (L : LR K HT H BO RO bs m ⟨.bracket c, cur, stk, n, r⟩) (nD : H D = none) :
    LR K HT (upd (upd H D (.lst [])) BO (.lst (bs.reverse.map V.ref ++ [V.ref D]))) BO RO (D :: bs) m ⟨.word, [], (cur, c) :: stk, n, r⟩ := by
  have s1 := same_new nD (o := HO.lst [])
  have L1 := L.same s1
  obtain ⟨a1, a2, a3, a4⟩ := L1.apart
  have nBD : BO ≠ D := fun z => by
    have := L.bo
    rw [z, nD] at this
    cases this
  have nRD : RO ≠ D := fun z => by
    have := L.ro
    rw [z, nD] at this
    cases this
  have nbD : D ∉ bs := fun z => by
    have : ∀ {r : List Addr} {q : List (List Ins)} {G : Hp}, Bds K G H r q → D ∉ r := by
      intro r q G h
      induction h with
      | nil => exact List.not_mem_nil
      | cons e _ _ ih =>
        intro z
        rcases List.mem_cons.mp z with rfl | z
        · rw [nD] at e
          cases e
        · exact ih z
    exact this L.bd z
  refine ⟨?_, ?_, ?_, ?_, ?_, same_mut L1.sm (L.nw BO (by simp)), L.n, ?_, ?_⟩
  · rw [upd_same, List.reverse_cons, List.map_append]
    rfl
  · rw [upd_ne a1.symm]
    exact L1.ro
  · have hbd : Bds K (Opn (BO :: RO :: D :: bs)) (upd H D (.lst [])) bs (cur :: stk.map (·.1)) := ((L.bd.more nD).same s1).sub fun a h => by
      simp only [List.mem_cons] at h ⊢
      rcases h with h | h | h | h
      · exact .inr (.inl h)
      · exact .inr (.inr (.inl h))
      · exact .inl h
      · exact .inr (.inr (.inr h))
    refine .cons (by rw [upd_ne nBD.symm]; exact upd_same) .nil (hbd.put (by simp) L1.bo a2)
  · rw [List.nodup_cons, List.nodup_cons, List.nodup_cons, List.mem_cons, List.mem_cons, List.mem_cons]
    exact ⟨fun z => z.elim a1 fun z => z.elim nBD a2, fun z => z.elim nRD a3, nbD, a4⟩
  · intro a ha
    by_cases z : a = D
    · rw [z]
      exact L.sm.free nD
    · refine L.nw a ?_
      simp only [List.mem_cons] at ha ⊢
      rcases ha with h | h | h | h
      · exact .inl h
      · exact .inr (.inl h)
      · exact absurd h z
      · exact .inr (.inr h)
  · have := L.dp
    show stk.length + 1 + 0 ≤ 2
    exact this
  · intro q hq
    rcases List.mem_cons.mp hq with rfl | hq
    · exact Nat.zero_le _
    · exact L.sz q hq
end
theorem joinL_mem {S : List Nat} : ∀ {ps : List (List Nat)} {p : List Nat} {c : Nat}, p ∈ ps → c ∈ p → c ∈ joinL S ps
  | [], _, _, h, _ => absurd h List.not_mem_nil
  | [q], p, c, h, hc => by
    rw [List.mem_singleton.mp h] at hc
    exact hc
  | q :: q2 :: r, p, c, h, hc => by
    rw [joinL_cons (by simp)]
    rcases List.mem_cons.mp h with rfl | h
    · exact List.mem_append.mpr (.inl hc)
    · exact List.mem_append.mpr (.inr (List.mem_append.mpr (.inr (joinL_mem h hc))))
theorem jn_split (t : Str) : jn (Txt.split t " ") = t := by
  unfold jn
  rw [join_eq]
  exact PySem.StrLaws.join_split t " "
theorem low_split {t u : Str} (h : Low t) (hu : u ∈ Txt.split t " ") : Low u := fun c hc => by
  refine h c ?_
  rw [← jn_split t, tl_jn]
  exact joinL_mem (List.mem_map.mpr ⟨u, hu, rfl⟩) hc
end DR
/-! ### what parse_program says or raises, as the law writes it down -/
/-! ### a text with one token or one sign changed -/
namespace DR
open PySem PySem.Spec PyProof.Rows L2 TL
def sp__law_pickS : Sp := fun vs H Q _ => ∃ (p c : Addr) (z : Str) (n : Nat), vs = [.ref p, .str z] ∧ PenAt H p c n ∧ n < 2 ^ 40 ∧ 0 < z.length ∧ z.length ≤ 100000 ∧ ∀ i H', i ∈ tl z → Kp p H H' → PenAt H' p c (n + 1) → Q (.str ⟨#[i]⟩) H'
/-- how long tokens are, with a blank each -/
def smT (ts : List Str) : Nat := (ts.map fun t => t.length + 1).sum
theorem smT_app (a b : List Str) : smT (a ++ b) = smT a + smT b := by
  unfold smT
  rw [List.map_append, List.sum_append]
theorem smT_jn : ∀ ts : List Str, smT ts ≤ (jn ts).length + 1
  | [] => Nat.zero_le _
  | [t] => by
    rw [jn_one]
    unfold smT
    simp
  | t :: u :: r => by
    have ih := smT_jn (u :: r)
    have e : jn (t :: u :: r) = jn [t] ++ " " ++ jn (u :: r) := jn_two (a := [t]) (b := u :: r) (by simp) (by simp)
    have l : (jn (t :: u :: r)).length = t.length + 1 + (jn (u :: r)).length := by
      rw [e, jn_one, len_tl, tl_append, tl_append, List.length_append, List.length_append, tl_blank, ← len_tl, ← len_tl]
      rfl
    rw [l]
    have : smT (t :: u :: r) = t.length + 1 + smT (u :: r) := by
      unfold smT
      rw [List.map_cons, List.sum_cons]
    omega
theorem smT_tk (ts : List Str) (k : Nat) : smT (ts.take k) ≤ smT ts := by
  have := smT_app (ts.take k) (ts.drop k)
  rw [List.take_append_drop] at this
  omega
/-- some tokens are made of those of a text and of odd ones -/
def OfT (ts : List Str) (m : Nat) (us : List Str) : Prop := (∀ u ∈ us, u ∈ ts ∨ (Low u ∧ u.length ≤ 40)) ∧ smT us ≤ m
theorem OfT.tk {ts : List Str} (k : Nat) : OfT ts (smT ts) (ts.take k) := ⟨fun _ h => .inl (List.mem_of_mem_take h), smT_tk _ _⟩
theorem OfT.app {ts us vs : List Str} {m n : Nat} (a : OfT ts m us) (b : OfT ts n vs) : OfT ts (m + n) (us ++ vs) := ⟨fun u h => (List.mem_append.mp h).elim (a.1 u) (b.1 u), by rw [smT_app]; exact Nat.add_le_add a.2 b.2⟩
theorem OfT.up {ts us : List Str} {m n : Nat} (a : OfT ts m us) (h : m ≤ n) : OfT ts n us := ⟨a.1, Nat.le_trans a.2 h⟩
theorem OfT.text {t : Str} {us : List Str} (h : Low t) (a : OfT (Txt.split t " ") (2 * smT (Txt.split t " ") + 41) us) : Low (jn us) ∧ (jn us).length ≤ 2 * t.length + 50 := by
  refine ⟨low_jn fun u hu => (a.1 u hu).elim (low_split h) fun z => z.1, ?_⟩
  have h1 := jn_len us
  have h2 := smT_jn (Txt.split t " ")
  rw [jn_split] at h2
  have h3 := a.2
  unfold smT at h2 h3
  omega
/-! pieces of lists of texts -/
theorem len_app (a b : Str) : (a ++ b).length = a.length + b.length := by
  rw [len_tl, len_tl, len_tl, tl_append, List.length_append]
end DR
/-! ### what is read keeps the document's bounds -/
/-! ### repr of data that holds empty dicts: the table of modules stands apart from it -/
namespace DR
open PySem PySem.Spec PyProof.Rows L2
/-- the table of modules stands in this heap -/
def Sys (h : Heap) : Prop := ∃ o es ep, h.get? sysModules = some o ∧ o.data = .dict es ep
mutual
/-- data that may hold empty dicts at any depth -/
inductive DpE (K : PySem.W.Frag) (H : Hp) : V → PyData → Prop
  | non : DpE K H .non .none
  | bl (b : Bool) : DpE K H (.bl b) (.bool b)
  | int (i : Int) : DpE K H (.int i) (.int i)
  | str (x : Str) : DpE K H (.str x) (.str x)
  | emp {a : Addr} : H a = some (.dK []) → DpE K H (.ref a) (.dict [])
  | lst {a : Addr} {xs : List V} {ds : List PyData} : SqL K H a xs → DpEs K H xs ds → DpE K H (.ref a) (.list ds)
  | tup {a : Addr} {xs : List V} {ds : List PyData} : SqT K H a xs → DpEs K H xs ds → DpE K H (.ref a) (.tuple ds)
inductive DpEs (K : PySem.W.Frag) (H : Hp) : List V → List PyData → Prop
  | nil : DpEs K H [] []
  | cons {x : V} {xs : List V} {d : PyData} {ds : List PyData} : DpE K H x d → DpEs K H xs ds → DpEs K H (x :: xs) (d :: ds)
end
section
variable {K : PySem.W.Frag} {H H' : Hp}
mutual
theorem Dp.e : ∀ {v : V} {d : PyData}, Dp K H v d → DpE K H v d
  | _, _, .non => .non
  | _, _, .bl b => .bl b
  | _, _, .int i => .int i
  | _, _, .str x => .str x
  | _, _, .lst h t => .lst h (DpAll.e t)
  | _, _, .tup h t => .tup h (DpAll.e t)
theorem DpAll.e : ∀ {vs : List V} {ds : List PyData}, DpAll K H vs ds → DpEs K H vs ds
  | _, _, .nil => .nil
  | _, _, .cons h t => .cons (Dp.e h) (DpAll.e t)
end
theorem DpX.e {v : V} {d : PyData} (h : DpX K H v d) : DpE K H v d := by
  rcases h with h | ⟨a, rfl, ha, rfl⟩
  · exact Dp.e h
  · exact .emp ha
mutual
theorem DpE.same (e : Same H H') : ∀ {v : V} {d : PyData}, DpE K H v d → DpE K H' v d
  | _, _, .non => .non
  | _, _, .bl b => .bl b
  | _, _, .int i => .int i
  | _, _, .str x => .str x
  | _, _, .emp h => .emp (e _ _ h)
  | _, _, .lst h t => .lst (same_l e h) (DpEs.same e t)
  | _, _, .tup h t => .tup (same_t e h) (DpEs.same e t)
theorem DpEs.same (e : Same H H') : ∀ {vs : List V} {ds : List PyData}, DpEs K H vs ds → DpEs K H' vs ds
  | _, _, .nil => .nil
  | _, _, .cons h t => .cons (DpE.same e h) (DpEs.same e t)
end
theorem DpEs.app : ∀ {xs ys : List V} {ds es : List PyData}, DpEs K H xs ds → DpEs K H ys es → DpEs K H (xs ++ ys) (ds ++ es)
  | _, _, _, _, .nil, h => h
  | _, _, _, _, .cons a t, h => .cons a (DpEs.app t h)
theorem DpEs.len : ∀ {xs : List V} {ds : List PyData}, DpEs K H xs ds → xs.length = ds.length
  | _, _, .nil => rfl
  | _, _, .cons _ t => congrArg (· + 1) (DpEs.len t)
end
section
variable {X : Cx} {pins : List (Addr × Obj)} {σ : L2.St} {H : Hp} {s : Shared}
mutual
theorem DpE.reads (I : Inv X pins σ H s) (hs : Sys s.heap) : ∀ {v : V} {d : PyData} {u : Value}, DpE X.K H v d → RelV v u → ∃ as, Reads s.heap u d as ∧ sysModules ∉ as
  | _, _, u, .non, r => by
    obtain rfl : u = Value.none := r
    exact ⟨[], .none, List.not_mem_nil⟩
  | _, _, u, .bl b, r => by
    obtain rfl : u = Value.bool b := r
    exact ⟨[], .bool b, List.not_mem_nil⟩
  | _, _, u, .int i, r => by
    obtain ⟨t, rfl⟩ := r
    exact ⟨[], .int i t, List.not_mem_nil⟩
  | _, _, u, .str x, r => by
    obtain ⟨t, rfl⟩ := r
    exact ⟨[], .str x t, List.not_mem_nil⟩
  | .ref a, _, u, .emp ha, r => by
    obtain rfl : u = Value.ref a := r
    obtain ⟨z, lo, vs, rel, o, es, ep, e1, ex, e2, _, e4, _⟩ := dk_rd I.hok (L2.Rd.of ha)
    cases rel
    have e5 : es.toList = [] := by
      cases h : es.toList with
      | nil => rfl
      | cons y ys =>
        rw [h] at e4
        cases e4
    refine ⟨a :: [] ++ [], .dict (kvs := []) e1 ex.1 e2 (by rw [e5]; exact .nil) (by rw [e5]; exact .nil), fun hm => ?_⟩
    have e6 : sysModules = a := by simpa using hm
    rw [e6] at lo
    simp at lo
  | .ref a, _, u, .lst h t, r => by
    obtain rfl : u = Value.ref a := r
    obtain ⟨its, rr, pl, hz⟩ := I.list h
    obtain ⟨as, ra, na⟩ := DpEs.reads I hs t rr
    obtain ⟨o, n, e1, e2, _, e4⟩ := pl
    refine ⟨a :: as, .list e1 e2 e4 (by rw [List.toList_toArray]; exact ra), fun hm => ?_⟩
    rcases List.mem_cons.mp hm with q | q
    · obtain ⟨o2, es, ep, f1, f2⟩ := hs
      rw [q, e1] at f1
      cases f1
      rw [e4] at f2
      cases f2
    · exact na q
  | .ref a, _, u, .tup h t, r => by
    obtain rfl : u = Value.ref a := r
    obtain ⟨its, rr, pl, hz⟩ := I.tuple h
    obtain ⟨as, ra, na⟩ := DpEs.reads I hs t rr
    obtain ⟨o, e1, e2, n, e4⟩ := pl
    exact ⟨as, .tuple e1 e2 e4 (by rw [List.toList_toArray]; exact ra), na⟩
theorem DpEs.reads (I : Inv X pins σ H s) (hs : Sys s.heap) : ∀ {vs : List V} {ds : List PyData} {us : List Value}, DpEs X.K H vs ds → Vals vs us → ∃ as, ReadsAll s.heap us ds as ∧ sysModules ∉ as
  | _, _, _, .nil, .nil => ⟨[], .nil, List.not_mem_nil⟩
  | _, _, _, .cons h t, .cons r rr => by
    obtain ⟨as, ra, na⟩ := DpE.reads I hs h r
    obtain ⟨bs, rb, nb⟩ := DpEs.reads I hs t rr
    exact ⟨as ++ bs, .cons ra rb, fun hm => (List.mem_append.mp hm).elim na nb⟩
end
end
/-! the law's call, told that the table of modules stands -/
end DR
/-! ### values that are no texts -/
namespace DR
open PySem PySem.Spec PyProof.Rows L2 TL
section
variable {K : PySem.W.Frag} {H H' : Hp} {v : V} {d : PyData}
theorem DpE.ty (h : DpE K H v d) : TyX K H v (.type (tyName d)) := by
  cases h with
  | non => exact .base .non
  | bl b => exact .base (.bl b)
  | int i => exact .base (.int i)
  | str x => exact .base (.str x)
  | emp h => exact .base (.dK h)
  | lst hs _ =>
    rcases hs with (h | ⟨o, h⟩) | ⟨o, its, n, h, c, _⟩
    · exact .base (.lst h)
    · exact .base (.frz h)
    · exact .kList h c
  | tup hs _ =>
    rcases hs with (h | ⟨o, h⟩) | ⟨o, its, n, h, c, _⟩
    · exact .base (.tup h)
    · exact .fTuple h
    · exact .kTuple h c
end
end DR
/-! ### any data, by its size: what is bent grows little -/
namespace DR
open PySem PySem.Spec PyProof.Rows L2
/-! only empty dicts -/
section
variable {K : PySem.W.Frag} {H H' : Hp}
theorem DpEs.take : ∀ {xs : List V} {ds : List PyData} (k : Nat), DpEs K H xs ds → DpEs K H (xs.take k) (ds.take k)
  | _, _, 0, _ => .nil
  | _, _, k + 1, .nil => .nil
  | _, _, k + 1, .cons h t => .cons h (DpEs.take k t)
theorem DpEs.drop : ∀ {xs : List V} {ds : List PyData} (k : Nat), DpEs K H xs ds → DpEs K H (xs.drop k) (ds.drop k)
  | _, _, 0, h => h
  | _, _, k + 1, .nil => .nil
  | _ :: xs, _ :: ds, k + 1, .cons h t => by
    have := DpEs.drop (xs := xs) (ds := ds) k t
    exact this
theorem DpEs.at : ∀ {xs : List V} {ds : List PyData} {k : Nat} {v : V}, DpEs K H xs ds → xs[k]? = some v → ∃ d, ds[k]? = some d ∧ DpE K H v d
  | _, _, k, v, .nil, h => by cases h
  | _, _, 0, v, .cons h t, e => by
    cases e
    exact ⟨_, rfl, h⟩
  | _ :: xs, _ :: ds, k + 1, v, .cons h t, e => by
    have e2 : xs[k]? = some v := e
    exact DpEs.at (k := k) t e2
end
end DR
/-! ### a text set against any data; truth values taken for numbers -/
namespace PySem.SeqAt
open _root_.PySem.Sem (wp)
end PySem.SeqAt
/-! ### is_program of any data -/
namespace DR
open PySem PySem.Spec PyProof.Rows L2
def okS (t : Nat × Nat) : Bool := decide (t.1 ≤ 100) && decide (t.2 ≤ 5)
/-! ### told of by isinstance -/
def isLst : PyData → Bool
  | .list _ => true
  | _ => false
theorem kit_list (K : PySem.W.Frag) (d : PyData) : PySem.W.kitOne K (.type (tyName d)) (.type "list") = some (isLst d) := by
  cases d with
  | none => exact kit_ty (show kitB "NoneType" "list" = some false by decide +kernel)
  | bool b => exact kit_ty (show kitB "bool" "list" = some false by decide +kernel)
  | int i => exact kit_ty (show kitB "int" "list" = some false by decide +kernel)
  | str x => exact kit_ty (show kitB "str" "list" = some false by decide +kernel)
  | list xs => exact kit_ty (show kitB "list" "list" = some true by decide +kernel)
  | tuple xs => exact kit_ty (show kitB "tuple" "list" = some false by decide +kernel)
  | dict kvs => exact kit_ty (show kitB "dict" "list" = some false by decide +kernel)
/-! ### promises -/
end DR
/-! ### roads -/
namespace DR
open PySem PySem.Spec PyProof.Rows L2
/-! a heap without what may change -/
open Classical in
noncomputable def erM (M : Addr → Prop) (H : Hp) : Hp := fun b => if M b then none else H b
theorem erM_at {M : Addr → Prop} {H : Hp} {b : Addr} {o : HO} (h : erM M H b = some o) : ¬ M b ∧ H b = some o := by
  unfold erM at h
  by_cases z : M b
  · rw [if_pos z] at h
    cases h
  · rw [if_neg z] at h
    exact ⟨z, h⟩
theorem erM_of {M : Addr → Prop} {H : Hp} {b : Addr} {o : HO} (n : ¬ M b) (h : H b = some o) : erM M H b = some o := by
  unfold erM
  rw [if_neg n]
  exact h
theorem erM_le {M : Addr → Prop} {H : Hp} : Same (erM M H) H := fun b o e => (erM_at e).2
/-- all but what may change stays -/
def Kst (M : Addr → Prop) (H H' : Hp) : Prop := ∀ b o, ¬ M b → H b = some o → H' b = some o
theorem Kst.refl (M : Addr → Prop) (H : Hp) : Kst M H H := fun _ _ _ e => e
theorem Kst.trans {M : Addr → Prop} {H H1 H2 : Hp} (a : Kst M H H1) (b : Kst M H1 H2) : Kst M H H2 := fun c o n e => b c o n (a c o n e)
theorem Same.ks {M : Addr → Prop} {H H' : Hp} (s : Same H H') : Kst M H H' := fun b o _ e => s b o e
theorem Kp.ks {M : Addr → Prop} {p : Addr} {H H' : Hp} (k : Kp p H H') (hp : M p) : Kst M H H' := fun b o n e => k b o (fun z => n (z ▸ hp)) e
theorem Kst.upd {M : Addr → Prop} {H H' : Hp} {p : Addr} {o : HO} (k : Kst M H H') (hp : M p) : Kst M H (upd H' p o) := fun b u n e => by
  have nb : b ≠ p := fun z => n (by rw [z]; exact hp)
  rw [upd_ne nb]
  exact k b u n e
theorem Kst.sub {M N : Addr → Prop} {H H' : Hp} (k : Kst M H H') (h : ∀ b, M b → N b) : Kst N H H' := fun b o n e => k b o (fun z => n (h b z)) e
theorem Kst.er {M : Addr → Prop} {H H' : Hp} (k : Kst M H H') : Same (erM M H) (erM M H') := fun b o e => by
  obtain ⟨n, e⟩ := erM_at e
  exact erM_of n (k b o n e)
/-- what may change: lists, and a pen -/
structure MOk (M : Addr → Prop) (p : Addr) (H : Hp) : Prop where
  pen : M p
  lists : ∀ b, M b → b = p ∨ ∃ xs, H b = some (.lst xs)
  dict : ∃ kvs, H p = some (.dK kvs)
theorem MOk.there {M : Addr → Prop} {p b : Addr} {H : Hp} (m : MOk M p H) (h : M b) : H b ≠ none := fun z => by
  rcases m.lists b h with e | ⟨xs, e⟩
  · obtain ⟨kvs, k⟩ := m.dict
    rw [← e, z] at k
    cases k
  · rw [z] at e
    cases e
theorem MOk.notup {M : Addr → Prop} {p b : Addr} {H : Hp} {xs : List V} (m : MOk M p H) (h : H b = some (.tup xs)) : ¬ M b := fun z => by
  rcases m.lists b z with e | ⟨ys, e⟩
  · obtain ⟨kvs, k⟩ := m.dict
    rw [← e, h] at k
    cases k
  · rw [h] at e
    cases e
theorem MOk.tp {M : Addr → Prop} {p : Addr} {H H' : Hp} (m : MOk M p H) (k : Kst M H H') : Tp H H' := by
  refine ⟨fun b xs e => k _ _ (m.notup e) e, fun b o u e => k _ _ (fun z => ?_) e⟩
  rcases m.lists b z with q | ⟨ys, q⟩
  · obtain ⟨kvs, y⟩ := m.dict
    rw [← q, e] at y
    cases y
  · rw [e] at q
    cases q
theorem MOk.tup {M : Addr → Prop} {p a : Addr} {H : Hp} {K : PySem.W.Frag} {xs : List V} (m : MOk M p H) (h : SqT K H a xs) : SqT K (erM M H) a xs := by
  rcases h with (h | ⟨o, h⟩) | h
  · exact .inl (.inl (erM_of (m.notup h) h))
  · refine .inl (.inr ⟨o, erM_of (fun z => ?_) h⟩)
    rcases m.lists a z with q | ⟨ys, q⟩
    · obtain ⟨kvs, y⟩ := m.dict
      rw [← q, h] at y
      cases y
    · rw [h] at q
      cases q
  · exact .inr h
theorem MOk.same {M : Addr → Prop} {p : Addr} {H H' : Hp} (m : MOk M p H) (s : Same H H') : MOk M p H' := ⟨m.pen, fun b h => (m.lists b h).imp id fun z => z.elim fun xs e => ⟨xs, s _ _ e⟩, m.dict.elim fun _ e => ⟨_, s _ _ e⟩⟩
/-- data that a call made anew stands outside -/
theorem MOk.data {M : Addr → Prop} {p : Addr} {kvs : List (Key × V)} {H H' : Hp} {K : PySem.W.Frag} {v : V} {d : PyData} (m : MOk M p H) (hp : H' p = some (.dK kvs)) (h : Dp K (er H H') v d) : Dp K (erM M H') v d := by
  have e : er H H' p = some (.dK kvs) := er_of hp fun xs z => by
    obtain ⟨k, y⟩ := m.dict
    rw [y] at z
    cases z
  refine Dp.kpd e (fun b o n z => ?_) h
  obtain ⟨z1, z2⟩ := er_at z
  refine erM_of (fun y => ?_) z1
  rcases m.lists b y with q | ⟨xs, q⟩
  · exact n q
  · exact z2 xs q
/-- tuples of before stand in what is new, too -/
theorem er_oldS {H H2 : Hp} {D : Addr} (s : Same H H2) (nD : H D = none) : Tp H (er1 D (er H H2)) := by
  refine ⟨fun b xs e => er1_of (ne_of_none e nD) (er_of (s _ _ e) fun ys z => by rw [e] at z; cases z), fun b o u e => er1_of (ne_of_none e nD) (er_of (s _ _ e) fun ys z => by rw [e] at z; cases z)⟩
theorem IsI.rep_inv {d : PyData} {n : Int} {b : List Ins} (h : IsI d (.rep n b)) : ∃ d2, d = .tuple [.str "repeat", .int n, d2] ∧ IsP d2 b := by
  cases h with
  | rep n hp => exact ⟨_, rfl, hp⟩
theorem Dp.three {K : PySem.W.Frag} {H : Hp} {v : V} {s : Str} {n : Int} {d2 : PyData} (h : Dp K H v (.tuple [.str s, .int n, d2])) : ∃ a y, v = .ref a ∧ SqT K H a [.str s, .int n, y] ∧ Dp K H y d2 := by
  obtain ⟨a, xs, rfl, hs, hall⟩ := Dp.tup_inv h
  cases hall with
  | cons h1 t =>
    cases t with
    | cons h2 t2 =>
      cases t2 with
      | cons h3 t3 =>
        cases t3
        cases h1
        cases h2
        exact ⟨a, _, rfl, hs, h3⟩
/-- a program, copied: the same data, in lists that are new -/
def sp_copied (K : PySem.W.Frag) (k : Nat) : Sp := fun vs H Q _ => ∃ (v : V) (d : PyData) (b : List Ins), vs = [v] ∧ Dp K H v d ∧ IsP d b ∧ dpP b < k ∧ k ≤ 3 ∧ cnP b ≤ 1000 ∧ ∀ v' H', Same H H' → Dp K (er H H') v' d → Q v' H'
/-! ### names and places -/
def gS : List (Str × Int) → Str → Option Int
  | [], _ => none
  | t :: r, n => if t.1 = n then some t.2 else gS r n
def pS : List (Str × Int) → Str → Int → List (Str × Int)
  | [], n, v => [(n, v)]
  | t :: r, n, v => if t.1 = n then (n, v) :: r else t :: pS r n v
theorem gS_mem : ∀ {m : List (Str × Int)} {n : Str} {z : Int}, gS m n = some z → (n, z) ∈ m
  | t :: r, n, z, h => by
    unfold gS at h
    by_cases q : t.1 = n
    · rw [if_pos q] at h
      cases h
      rw [← q]
      exact List.mem_cons_self
    · rw [if_neg q] at h
      exact List.mem_cons_of_mem _ (gS_mem h)
theorem gS_none : ∀ {m : List (Str × Int)} {n : Str}, gS m n = none ↔ n ∉ m.map (·.1)
  | [], n => ⟨fun _ h => absurd h List.not_mem_nil, fun _ => rfl⟩
  | t :: r, n => by
    unfold gS
    rw [List.map_cons, List.mem_cons]
    by_cases q : t.1 = n
    · rw [if_pos q]
      exact ⟨fun z => (by cases z), fun z => absurd (Or.inl q.symm) z⟩
    · rw [if_neg q, gS_none (m := r)]
      exact ⟨fun z y => y.elim (fun e => q e.symm) z, fun z y => z (Or.inr y)⟩
theorem gS_put : ∀ (m : List (Str × Int)) (n k : Str) (v : Int), gS (pS m n v) k = if n = k then some v else gS m k
  | [], n, k, v => rfl
  | t :: r, n, k, v => by
    unfold pS
    by_cases q : t.1 = n
    · rw [if_pos q]
      show (if n = k then some v else gS r k) = if n = k then some v else if t.1 = k then some t.2 else gS r k
      by_cases z : n = k
      · rw [if_pos z, if_pos z]
      · rw [if_neg z, if_neg z, if_neg (by rw [q]; exact z)]
    · rw [if_neg q]
      show (if t.1 = k then some t.2 else gS (pS r n v) k) = if n = k then some v else if t.1 = k then some t.2 else gS r k
      rw [gS_put r n k v]
      by_cases z : n = k
      · rw [if_pos z, if_neg (fun y => q (y.trans z.symm)), if_pos z]
      · rw [if_neg z, if_neg z]
theorem pS_keys : ∀ (m : List (Str × Int)) (n : Str) (v : Int), (pS m n v).map (·.1) = if n ∈ m.map (·.1) then m.map (·.1) else m.map (·.1) ++ [n]
  | [], n, v => rfl
  | t :: r, n, v => by
    have ih := pS_keys r n v
    unfold pS
    by_cases q : t.1 = n
    · rw [if_pos q, List.map_cons, List.map_cons, q, if_pos List.mem_cons_self]
    · rw [if_neg q, List.map_cons, List.map_cons, ih]
      by_cases z : n ∈ r.map (·.1)
      · rw [if_pos z, if_pos (List.mem_cons_of_mem _ z)]
      · rw [if_neg z, if_neg (fun y => (List.mem_cons.mp y).elim (fun e => q e.symm) z)]
        rfl
theorem pS_nodup {m : List (Str × Int)} {n : Str} {v : Int} (h : (m.map (·.1)).Nodup) : ((pS m n v).map (·.1)).Nodup := by
  rw [pS_keys]
  by_cases z : n ∈ m.map (·.1)
  · rw [if_pos z]
    exact h
  · rw [if_neg z]
    refine List.nodup_append.mpr ⟨h, List.nodup_cons.mpr ⟨List.not_mem_nil, List.nodup_nil⟩, fun a ha b hb => ?_⟩
    rw [List.mem_singleton.mp hb]
    exact fun e => z (e ▸ ha)
/-! ### actions, and what they leave -/
inductive Act where
  | enter (n : Str) (pl : Int)
  | run (n : Str) (d : PyData) (b : List Ins)
def namesOf (as : List Act) : List Str := as.filterMap fun
  | .enter n _ => some n
  | .run _ _ _ => none
def stStep (m : List (Str × Int)) : Act → List (Str × Int)
  | .enter n pl => pS m n pl
  | .run n _ b => pS m n ((gS m n).getD 0 + shP b)
def stO (as : List Act) : List (Str × Int) := as.foldl stStep []
theorem stO_snoc {as : List Act} {j : Nat} {a : Act} (h : as[j]? = some a) : stO (as.take (j + 1)) = stStep (stO (as.take j)) a := by
  unfold stO
  rw [take_snoc h, List.foldl_append]
  rfl
/-- a program that may be run -/
structure ProgOk (b : List Ins) : Prop where
  dp : dpP b < 3
  cp : CP (10 ^ 30) b
  np : NP b
  rp : RP (10 ^ 30) b
  cn : cnP b ≤ 100
  sd : (sdP b).length ≤ 5
  w : WP b
def StepOk (m : List (Str × Int)) : Act → Prop
  | .enter n pl => gS m n = none ∧ pl.natAbs ≤ 10 ^ 30
  | .run n d b => (∃ z, gS m n = some z) ∧ ProgOk b ∧ IsP d b
/-- a history that may stand -/
def Lgl (as : List Act) : Prop := ∀ j a, as[j]? = some a → StepOk (stO (as.take j)) a
theorem Lgl.nil : Lgl [] := fun j a h => by cases h
theorem Lgl.snoc {as : List Act} {a : Act} (h : Lgl as) (ok : StepOk (stO as) a) : Lgl (as ++ [a]) := fun j x e => by
  by_cases lt : j < as.length
  · rw [List.getElem?_append_left lt] at e
    rw [List.take_append_of_le_length (by omega)]
    exact h j x e
  · have e2 : j = as.length := by
      have := (List.getElem?_eq_some_iff.mp e).1
      rw [List.length_append] at this
      show j = as.length
      have l1 : [a].length = 1 := rfl
      omega
    subst e2
    rw [List.getElem?_append_right (Nat.le_refl _), Nat.sub_self] at e
    cases e
    rw [List.take_append_of_le_length (Nat.le_refl _), List.take_length]
    exact ok
theorem Lgl.take {as : List Act} (h : Lgl as) (k : Nat) : Lgl (as.take k) := fun j x e => by
  rw [List.getElem?_take] at e
  split at e
  · next lt =>
    have := h j x e
    rwa [List.take_take, Nat.min_eq_left (by omega)]
  · cases e
/-- the names, once each -/
theorem Lgl.names : ∀ {as : List Act}, Lgl as → (stO as).map (·.1) = namesOf as ∧ ((stO as).map (·.1)).Nodup := by
  intro as h
  have go : ∀ j, j ≤ as.length → (stO (as.take j)).map (·.1) = namesOf (as.take j) ∧ ((stO (as.take j)).map (·.1)).Nodup := fun j => by
    induction j with
    | zero => exact fun _ => ⟨rfl, List.nodup_nil⟩
    | succ j ih =>
      intro hj
      obtain ⟨e1, e2⟩ := ih (by omega)
      have at_ : as[j]? = some as[j] := List.getElem?_eq_getElem (by omega)
      have ok := h j _ at_
      rw [stO_snoc at_, take_snoc at_]
      generalize as[j] = a at ok
      generalize stO (as.take j) = m at e1 e2 ok
      cases a with
      | enter n pl =>
        have no := gS_none.mp ok.1
        refine ⟨?_, pS_nodup e2⟩
        show (pS m n pl).map _ = _
        rw [pS_keys, if_neg no, e1]
        unfold namesOf
        rw [List.filterMap_append]
        rfl
      | run n d b =>
        obtain ⟨⟨z, hz⟩, _⟩ := ok
        have yes : n ∈ m.map (·.1) := List.mem_map.mpr ⟨_, gS_mem hz, rfl⟩
        refine ⟨?_, pS_nodup e2⟩
        show (pS m n _).map _ = _
        rw [pS_keys, if_pos yes, e1]
        unfold namesOf
        rw [List.filterMap_append]
        exact (List.append_nil _).symm
  have := go as.length (Nat.le_refl _)
  rwa [List.take_length] at this
/-! how far all that goes -/
/-! what the dials show -/
/-! ### a road in the heap -/
def ActV (K : PySem.W.Frag) (G : Hp) (v : V) : Act → Prop
  | .enter n pl => ∃ t, v = .ref t ∧ SqT K G t [.str "enter", .str n, .int pl]
  | .run n d b => ∃ t u, v = .ref t ∧ SqT K G t [.str "run", .str n, u] ∧ Dp K G u d ∧ IsP d b
abbrev ActVs (K : PySem.W.Frag) (G : Hp) : List V → List Act → Prop := Paired (ActV K G)
theorem ActV.same {K : PySem.W.Frag} {G G' : Hp} {v : V} {a : Act} (s : Same G G') (h : ActV K G v a) : ActV K G' v a := by
  cases a with
  | enter n pl =>
    obtain ⟨t, e, z⟩ := h
    exact ⟨t, e, same_t s z⟩
  | run n d b =>
    obtain ⟨t, u, e, z, hd, hp⟩ := h
    exact ⟨t, u, e, same_t s z, Dp.same s hd, hp⟩
theorem ActVs.same {K : PySem.W.Frag} {G G' : Hp} (s : Same G G') : ∀ {xs : List V} {as : List Act}, ActVs K G xs as → ActVs K G' xs as
  | _, _, .nil => .nil
  | _, _, .cons r q => .cons (r.same s) (ActVs.same s q)
theorem ActVs.get {K : PySem.W.Frag} {G : Hp} : ∀ {xs : List V} {as : List Act} {j : Nat} {x : V}, ActVs K G xs as → xs[j]? = some x → ∃ a, as[j]? = some a ∧ ActV K G x a
  | _, _, _, _, .nil, e => nomatch e
  | _, _, 0, _, .cons r _, e => by
    cases e
    exact ⟨_, rfl, r⟩
  | _, _, j + 1, _, .cons _ q, e => ActVs.get (j := j) q e
theorem ActVs.len {K : PySem.W.Frag} {G : Hp} {xs : List V} {as : List Act} (h : ActVs K G xs as) : xs.length = as.length := Paired.length h
def roF (q : Int) (D T : Addr) : List (Str × V) := [("prime", .int q), ("done", .ref D), ("taken_back", .ref T)]
theorem nmRo : (("done" : Str) == "prime") = false ∧ (("taken_back" : Str) == "prime") = false ∧ (("taken_back" : Str) == "done") = false := by decide +kernel
theorem nmRo2 : ¬ ("prime" : Str) = "done" ∧ ¬ ("prime" : Str) = "taken_back" ∧ ¬ ("done" : Str) = "taken_back" := by decide +kernel
section
variable (q : Int) (D T : Addr)
theorem ro_prime : (roF q D T).lookup ("prime" : Str) = some (.int q) := by
  unfold roF
  simp [List.lookup]
theorem ro_done : (roF q D T).lookup ("done" : Str) = some (.ref D) := by
  unfold roF
  simp only [List.lookup, nmRo.1]
  simp
theorem ro_taken : (roF q D T).lookup ("taken_back" : Str) = some (.ref T) := by
  unfold roF
  simp only [List.lookup, nmRo.2.1, nmRo.2.2]
  simp
theorem ro_no {m : Str} (h : (m == ("prime" : Str)) = false ∧ (m == ("done" : Str)) = false ∧ (m == ("taken_back" : Str)) = false) : (roF q D T).lookup m = none := by
  unfold roF
  simp only [List.lookup, h.1, h.2.1, h.2.2]
end
structure RoadAt (K : PySem.W.Frag) (C : Addr) (M : Addr → Prop) (H : Hp) (r D T : Addr) (q : Int) (as bs : List Act) : Prop where
  ob : ∃ dx, H r = some (.ins C dx (roF q D T))
  dn : ∃ xs, H D = some (.lst xs) ∧ ActVs K (erM M H) xs as
  tb : ∃ xs, H T = some (.lst xs) ∧ ActVs K (erM M H) xs bs
  mD : M D
  mT : M T
  nr : ¬ M r
  ne : D ≠ T
  fewA : as.length ≤ 1000
  fewB : bs.length ≤ 1000
  lg : Lgl as
/-- all stays but what may change; and its own lists stay -/
theorem RoadAt.keep {K : PySem.W.Frag} {C r D T : Addr} {M : Addr → Prop} {H H' : Hp} {q : Int} {as bs : List Act} (R : RoadAt K C M H r D T q as bs) (k : Kst M H H') (hD : H' D = H D) (hT : H' T = H T) : RoadAt K C M H' r D T q as bs := by
  obtain ⟨dx, e⟩ := R.ob
  obtain ⟨xs, e1, a1⟩ := R.dn
  obtain ⟨ys, e2, a2⟩ := R.tb
  exact ⟨⟨dx, k _ _ R.nr e⟩, ⟨xs, hD.trans e1, a1.same k.er⟩, ⟨ys, hT.trans e2, a2.same k.er⟩, R.mD, R.mT, R.nr, R.ne, R.fewA, R.fewB, R.lg⟩
theorem RoadAt.same {K : PySem.W.Frag} {C r D T : Addr} {M : Addr → Prop} {H H' : Hp} {q : Int} {as bs : List Act} (R : RoadAt K C M H r D T q as bs) (s : Same H H') : RoadAt K C M H' r D T q as bs := by
  obtain ⟨xs, e1, _⟩ := R.dn
  obtain ⟨ys, e2, _⟩ := R.tb
  exact R.keep (Same.ks s) (by rw [e1, s _ _ e1]) (by rw [e2, s _ _ e2])
theorem RoadAt.kp {K : PySem.W.Frag} {C r D T p : Addr} {M : Addr → Prop} {H H' : Hp} {q : Int} {as bs : List Act} (R : RoadAt K C M H r D T q as bs) (m : MOk M p H) (k : Kp p H H') : RoadAt K C M H' r D T q as bs := by
  obtain ⟨xs, e1, _⟩ := R.dn
  obtain ⟨ys, e2, _⟩ := R.tb
  obtain ⟨kvs, hp⟩ := m.dict
  exact R.keep (k.ks m.pen) (by rw [e1, k _ _ (ne_of e1 hp (by intro z; cases z)) e1]) (by rw [e2, k _ _ (ne_of e2 hp (by intro z; cases z)) e2])
/-- a road's own two lists -/
def Own2 (D T : Addr) : Addr → Prop := fun b => b = D ∨ b = T
theorem MOk.own {M : Addr → Prop} {p D T : Addr} {H H' : Hp} {xs ys : List V} (m : MOk M p H) (k : Kst (Own2 D T) H H') (hD : H D = some (.lst xs)) (hT : H T = some (.lst ys)) (eD : ∃ us, H' D = some (.lst us)) (eT : ∃ us, H' T = some (.lst us)) : MOk M p H' := by
  obtain ⟨kvs, hp⟩ := m.dict
  have n1 := ne_of hp hD (by intro z; cases z)
  have n2 := ne_of hp hT (by intro z; cases z)
  refine ⟨m.pen, fun b h => ?_, kvs, k _ _ (fun z => z.elim n1 n2) hp⟩
  rcases m.lists b h with e | ⟨us, e⟩
  · exact .inl e
  · by_cases z : Own2 D T b
    · rcases z with z | z
      · rw [z]
        exact .inr eD
      · rw [z]
        exact .inr eT
    · exact .inr ⟨us, k _ _ z e⟩
/-! what the classes say -/
structure ClRo (K : PySem.W.Frag) (mg : Str → Option Value) (C : Addr) : Prop where
  cl : Cls K C
  np : NoAttr K C "prime"
  nd : NoAttr K C "done"
  nt : NoAttr K C "taken_back"
  gl : mg "Road" = some (.ref C)
/-! ### names -/
def nameOk (n : Str) : Bool := decide (1 ≤ n.length ∧ n.length ≤ 8) && decide (∀ c ∈ n.cps.toList, 97 ≤ c ∧ c ≤ 122)
theorem inV_strs (n : Str) : ∀ ns : List Str, inV (V.str n) (ns.map V.str) = decide (n ∈ ns)
  | [] => rfl
  | m :: r => by
    have q : eqV (V.str m) (V.str n) = decide (m = n) := by
      show (m == n) = _
      rw [Bool.eq_iff_iff, beq_iff_eq, decide_eq_true_iff]
    have ih := inV_strs n r
    unfold inV at ih ⊢
    rw [List.map_cons, List.any_cons, ih, q, Bool.eq_iff_iff]
    simp only [Bool.or_eq_true, decide_eq_true_eq, List.mem_cons]
    exact ⟨fun z => z.imp Eq.symm id, fun z => z.imp Eq.symm id⟩
theorem flat_strs (ns : List Str) : (ns.map V.str).all flatV = true := by
  rw [List.all_eq_true]
  intro x hx
  obtain ⟨m, _, rfl⟩ := List.mem_map.mp hx
  rfl
/-! ### what the methods promise where nothing is refused -/
def sp_is_name : Sp := fun vs H Q _ => ∃ n : Str, vs = [.str n] ∧ n.length ≤ 100000 ∧ ∀ H', Same H H' → Q (.bl (nameOk n)) H'
def sp_road (C : Addr) : Sp := fun vs H Q _ => ∃ (r dx : Addr) (q : Int), vs = [.ref r, .int q] ∧ H r = some (.ins C dx []) ∧
  ∀ D T H', Kp r H H' → H D = none → H T = none → D ≠ T → H' r = some (.ins C dx (roF q D T)) → H' D = some (.lst []) → H' T = some (.lst []) → Q .non H'
def sp_perform (K : PySem.W.Frag) (C : Addr) : Sp := fun vs H Q _ => ∃ (r D T dx t : Addr) (q : Int) (xs ys : List V), vs = [.ref r, .ref t] ∧ H r = some (.ins C dx (roF q D T)) ∧ H D = some (.lst xs) ∧ H T = some (.lst ys) ∧ D ≠ T ∧ xs.length ≤ 1000 ∧
  ∀ H', Kst (Own2 D T) H H' → H' D = some (.lst (xs ++ [.ref t])) → H' T = some (.lst []) → Q .non H'
def sp_has_walker (K : PySem.W.Frag) (C : Addr) : Sp := fun vs H Q _ => ∃ (r D T : Addr) (q : Int) (as bs : List Act) (M : Addr → Prop) (n : Str), vs = [.ref r, .str n] ∧ RoadAt K C M H r D T q as bs ∧ ∀ H', Same H H' → Q (.bl (decide (n ∈ namesOf as))) H'
def sp_enter (K : PySem.W.Frag) (C : Addr) : Sp := fun vs H Q _ => ∃ (r D T p : Addr) (q : Int) (as bs : List Act) (M : Addr → Prop) (n : Str) (pl : Int), vs = [.ref r, .str n, .int pl] ∧ RoadAt K C M H r D T q as bs ∧ MOk M p H ∧ nameOk n = true ∧ n ∉ namesOf as ∧ pl.natAbs ≤ 10 ^ 30 ∧ as.length < 1000 ∧
  ∀ H', Kst (Own2 D T) H H' → MOk M p H' → RoadAt K C M H' r D T q (as ++ [.enter n pl]) [] → Q .non H'
def sp_run (K : PySem.W.Frag) (C : Addr) : Sp := fun vs H Q _ => ∃ (r D T p : Addr) (q : Int) (as bs : List Act) (M : Addr → Prop) (n : Str) (u : V) (d : PyData) (b : List Ins), vs = [.ref r, .str n, u] ∧ RoadAt K C M H r D T q as bs ∧ MOk M p H ∧ n ∈ namesOf as ∧ Dp K H u d ∧ IsP d b ∧ ProgOk b ∧ as.length < 1000 ∧
  ∀ H', Kst (Own2 D T) H H' → MOk M p H' → RoadAt K C M H' r D T q (as ++ [.run n d b]) [] → Q .non H'
/-! methods with defaults -/
structure MetD (CX : CXT) (P : Program) (w : World) (K : PySem.W.Frag) (mg : Str → Option Value) (base : Heap) (C : Addr) (k : Nat) (m : Str) (dvs : List V) (sp : Sp) : Prop where
  ex : ∃ (f : Addr) (fd : FuncData) (ps : List Str) (ds : List Value), FnOk P w K mg base CX k f fd ps sp ∧ Meth K C m f ∧ Binds K fd ps ds ∧ Vals dvs ds
section
variable {CX : CXT} {P : Program} {w : World} {K : PySem.W.Frag} {mg : Str → Option Value} {base : Heap} {C : Addr} {k : Nat} {m : Str} {dvs : List V} {sp : Sp}
noncomputable def MetD.f (c : MetD CX P w K mg base C k m dvs sp) : Addr := c.ex.choose
noncomputable def MetD.fd (c : MetD CX P w K mg base C k m dvs sp) : FuncData := c.ex.choose_spec.choose
noncomputable def MetD.ps (c : MetD CX P w K mg base C k m dvs sp) : List Str := c.ex.choose_spec.choose_spec.choose
noncomputable def MetD.ds (c : MetD CX P w K mg base C k m dvs sp) : List Value := c.ex.choose_spec.choose_spec.choose_spec.choose
theorem MetD.ok (c : MetD CX P w K mg base C k m dvs sp) : FnOk P w K mg base CX k c.f c.fd c.ps sp := c.ex.choose_spec.choose_spec.choose_spec.choose_spec.1
theorem MetD.hm (c : MetD CX P w K mg base C k m dvs sp) : Meth K C m c.f := c.ex.choose_spec.choose_spec.choose_spec.choose_spec.2.1
theorem MetD.b (c : MetD CX P w K mg base C k m dvs sp) : Binds K c.fd c.ps c.ds := c.ex.choose_spec.choose_spec.choose_spec.choose_spec.2.2.1
end
theorem cutV_head (xs : List V) (k : Nat) : cutV xs none (some (k : Int)) = xs.take k := by
  unfold cutV
  have e : HT.sIx xs.length 0 none = 0 := rfl
  rw [e, List.drop_zero, Nat.sub_zero]
  rw [HT.sIx_nat]
  by_cases h : k ≤ xs.length
  · rw [Nat.min_eq_left h]
  · rw [Nat.min_eq_right (by omega), List.take_length, List.take_of_length_le (by omega)]
end DR
/-! ### == and != of instances by their class's own method, whatever it answers -/
namespace DR
open PySem PySem.Spec PyProof.Rows L2
/-- a class with its own ==, and the plain != -/
structure EqC (K : PySem.W.Frag) (C : Addr) : Prop where
  ne : PySem.W.findIn K (.ref C) "__ne__" = some (some (.builtin "object.__ne__"))
  ic : C8.InsC K C
def OfC (C : Addr) (H : Hp) (x : V) : Prop := ∃ a dx fs, x = .ref a ∧ H a = some (.ins C dx fs)
def rOwnC (C : Addr) (sp : Sp) (E : XK) (g : Bool → Bool) : R2 := fun x y H Q => OfC C H x ∧ OfC C H y ∧ sp [x, y] H (fun v H' => ∃ b, v = .bl b ∧ Q (.bl (g b)) H') E
section
variable {X : Cx} {CX : CXT} {C : Addr} {n : Nat} {sp : Sp}
/-- the own method, run somewhere below -/
theorem own_run (M : MetC CX X.prog X.w X.K X.mg X.base C n "__eq__" sp) {A : Around} {E : XK} (hx : Passes CX X E) (room : Room n A) (fr : A.frames = X.A.frames) {pins : List (Addr × Obj)} {s : Shared} {σ : L2.St} {H : Hp} {a b : Addr} {Q : VK} (I : Inv X pins σ H s)
    (h : sp [.ref a, .ref b] H Q E) : wpAny (model X.prog X.w) A (call (.ref M.f) [.ref a, .ref b]) (EP X pins σ Q) X.xe s := by
  have here : Env0 X.prog X.w X.K X.mg X.base A X.stack s H := by
    have e := I.env0
    exact ⟨fr.trans e.frames, e.mod, e.bs, e.bsz, e.funs, e.frf, e.hok, e.bare⟩
  have hl := M.ok.len _ _ _ _ h
  have bind := M.b s [.ref a, .ref b] I.kIn (by simpa using hl)
  refine wpAny_call (codeAny_mono (M.ok.run A X.stack s H ⟨[.ref a, .ref b], []⟩ [.ref a, .ref b] [.ref a, .ref b] Q E room here (by simpa using bind) (.cons rfl (.cons rfl .nil)) h) fun r s' hq => ?_)
  cases r with
  | error z => exact hx pins σ H s z s' I hq
  | ok fl =>
    cases fl with
    | ret u => exact I.after hq
    | next => exact hq.elim
    | brk => exact hq.elim
    | cont => exact hq.elim
theorem op_eqC (M : MetC CX X.prog X.w X.K X.mg X.base C n "__eq__" sp) {E : XK} (hx : Passes CX X E) (room : Room n X.A) : OpR X (compareOp .Eq) (rOwnC C sp E id) := by
  intro pins s σ H x y u1 u2 Q I rx ry h
  obtain ⟨⟨a, dx, fs, rfl, ha⟩, ⟨b, dy, gs, rfl, hb⟩, h⟩ := h
  cases rx
  cases ry
  obtain ⟨_, J, _⟩ := ins_get I.hok ha
  obtain ⟨_, J2, _⟩ := ins_get I.hok hb
  obtain ⟨_, J, _⟩ := J.look
  obtain ⟨_, J2, _⟩ := J2.look
  obtain ⟨_, hF⟩ := I.fr
  refine PySem.W.cmp_K (op := .Eq) (tb := .ref C) room.units0 hF I.ok.mod.kin J J2.type (by simp [PySem.W.notFirst]) M.hm.at_ M.hm.fn ?_
  refine wpAny_mono (own_run M hx room rfl I h) (fun r s' q => ?_) fun _ _ z => z
  obtain ⟨z, H', I', rz, c, ez, q⟩ := q
  subst ez
  cases rz
  exact ⟨.bl c, H', I', rfl, q⟩
theorem op_neC (Z : EqC X.K C) (M : MetC CX X.prog X.w X.K X.mg X.base C n "__eq__" sp) {E : XK} (hx : Passes CX X E) (room : Room (n + 1) X.A) : OpR X (compareOp .NotEq) (rOwnC C sp E fun c => !c) := by
  intro pins s σ H x y u1 u2 Q I rx ry h
  obtain ⟨⟨a, dx, fs, rfl, ha⟩, ⟨b, dy, gs, rfl, hb⟩, h⟩ := h
  cases rx
  cases ry
  obtain ⟨_, J, _⟩ := ins_get I.hok ha
  obtain ⟨_, J2, _⟩ := ins_get I.hok hb
  obtain ⟨_, J, _⟩ := J.look
  obtain ⟨_, J2, _⟩ := J2.look
  have kin := I.kIn
  have low := room.units0
  have low1 := room.in1.units0
  have run := own_run M hx room.in1 (A := X.A.in1) rfl I h
  -- the method behind !=, of the class of all objects
  have body : wpAny (model X.prog X.w) X.A.in1 (Builtin.«object.__ne__» ⟨[.ref a, .ref b], []⟩) (fun f s' => ∃ c : Bool, f = .done (.ret (.bool (!c))) ∧ EP X pins σ Q (.bool (!c)) s') X.xe s := by
    delta Builtin.«object.__ne__»
    repeat (first
      | with_reducible refine wpAny_cRoomFor low1 ?_
      | (refine wpAny_bind (m := callSpecialIfBound? (.ref a) (Str.ofString "__eq__") [.ref b]) (PySem.W.ifBound_K kin J M.hm.at_ M.hm.fn (wpAny_mono run (fun r s' hr => by
            obtain ⟨z, H', I', rz, c, ez, q⟩ := hr
            subst ez
            cases rz
            repeat (first | exact ⟨c, rfl, .bl (!c), H', I', rfl, q⟩ | exact wpAny_pure ⟨c, rfl, .bl (!c), H', I', rfl, q⟩ | (refine wpAny_bind (m := truthy (.bool _)) (wpAny_truthy_bool ?_)) | wp_step)) fun _ _ e => e)))
      | wp_step)
  have called : wpAny (model X.prog X.w) X.A (call (.builtin "object.__ne__") [.ref a, .ref b]) (fun r s' => ∃ c : Bool, r = .bool (!c) ∧ EP X pins σ Q (.bool (!c)) s') X.xe s := by
    refine wpAny_call (codeAny_call_builtin F.cmp_object.ne.plain F.cmpEntry_ne (PySem.W.check_slot F.cmpKind_ne F.cmpSplit_ne (J.type.andThen (PySem.W.looks_mroIn kin Z.ic.hm)) (F.cmpArgs_ne _ _) (wpAny_mono body (fun f s' z => ?_) fun _ _ z => z)))
    obtain ⟨c, rfl, q⟩ := z
    exact ⟨c, rfl, q⟩
  have bound : wpAny (model X.prog X.w) X.A (callSpecialIfBound? (.ref a) "__ne__" [.ref b]) (fun r s' => ∃ c : Bool, r = some (.bool (!c)) ∧ EP X pins σ Q (.bool (!c)) s') X.xe s := by
    unfold callSpecialIfBound? bindSpecialIfBound?
    refine wpAny_holding (wpAny_bind (wpAny_bind (wpAny_bind (J.type.here ((PySem.W.looks_findIn kin Z.ne).here ?_)))))
    apply wpAny_bind
    refine wpAny_askSetting (wpAny_ite ?_)
    have fin : wpAny (model X.prog X.w) X.A (call (.builtin "object.__ne__") ([.ref a] ++ [.ref b]) >>= fun v => pure (some v)) (fun r s' => ∃ c : Bool, r = some (.bool (!c)) ∧ EP X pins σ Q (.bool (!c)) s') X.xe s :=
      wpAny_bind (wpAny_mono called (fun v s' z => by
        obtain ⟨c, rfl, q⟩ := z
        exact wpAny_pure ⟨c, rfl, q⟩) fun _ _ z => z)
    split
    · exact wpAny_bind (wpAny_of_eq (F.cmp_object.ne.bind _) (wpAny_pure (by exact fin)))
    · exact wpAny_tryCatch (wpAny_bind (wpAny_of_eq (F.cmp_object.ne.bind _) (wpAny_pure (by exact fin))))
  have one : wpAny (model X.prog X.w) X.A (tryCompare (.ref a) "__ne__" (.ref b)) (fun r s' => ∃ c : Bool, r = some (.bool (!c)) ∧ EP X pins σ Q (.bool (!c)) s') X.xe s := by
    unfold tryCompare
    refine wpAny_bind (wpAny_mono bound (fun r s' z => ?_) fun _ _ z => z)
    obtain ⟨c, rfl, q⟩ := z
    exact wpAny_pure ⟨c, rfl, q⟩
  show wpAny _ _ (richCompare .NotEq (.ref a) (.ref b)) _ _ _
  unfold richCompare
  simp only [oneThing_ref, cmpInfo_NotEq]
  refine wpAny_holding (wpAny_bind (wpAny_cRoomFor low ?_))
  refine wpAny_bind (J.type.here (wpAny_bind (J2.type.here ?_)))
  split
  · next z => exact absurd z (by simp)
  · refine wpAny_bind ?_
    refine wpAny_pure ?_
    rw [if_neg Bool.false_ne_true]
    refine wpAny_bind (wpAny_mono one (fun r s' z => ?_) fun _ _ z => z)
    obtain ⟨c, rfl, q⟩ := z
    exact wpAny_pure q
end
end DR
/-! ### for k, v in the items of a dict whose keys are nested -/
/-! ### whether terms leave nothing -/
namespace DR
open PySem PySem.Spec PyProof.Rows L2
/-- the groups' places are places of the terms -/
def PlIn (ts : List Tm) (G : Grp) : Prop := ∀ g ∈ G, ∀ t ∈ g.2, ∃ u ∈ ts, u.pl = t.1
theorem PlIn.nil {ts : List Tm} : PlIn ts [] := fun _ h => absurd h List.not_mem_nil
theorem PlIn.key {ts : List Tm} {G : Grp} {r : Pol} (h : PlIn ts G) : PlIn ts (gSet G r []) := fun g hg t ht => by
  rcases mem_gSet hg with m | rfl
  · exact h g m t ht
  · exact absurd ht List.not_mem_nil
theorem put_mem : ∀ {m : Pol} {e v : Int} {t : Int × Int}, t ∈ put m e v → t ∈ m ∨ t.1 = e
  | [], e, v, t, h => by
    cases List.mem_singleton.mp h
    exact .inr rfl
  | u :: r, e, v, t, h => by
    unfold put at h
    by_cases q : u.1 = e
    · rw [if_pos q] at h
      rcases List.mem_cons.mp h with z | z
      · exact .inr (by rw [z])
      · exact .inl (List.mem_cons_of_mem _ z)
    · rw [if_neg q] at h
      rcases List.mem_cons.mp h with z | z
      · exact .inl (by rw [z]; exact List.mem_cons_self)
      · exact (put_mem z).imp (List.mem_cons_of_mem _) id
theorem PlIn.turn {ts : List Tm} {G : Grp} {t : Tm} {m : Pol} {v : Int} (h : PlIn ts G) (at_ : gAt G t.rs = some m) (mem : t ∈ ts) : PlIn ts (gSet G t.rs (put m t.pl v)) := fun g hg u hu => by
  rcases mem_gSet hg with q | rfl
  · exact h g q u hu
  · rcases put_mem hu with z | z
    · unfold gAt at at_
      obtain ⟨g0, e1, e2⟩ := Option.map_eq_some_iff.mp at_
      subst e2
      exact h g0 (List.mem_of_find?_eq_some e1) u z
    · exact ⟨t, mem, z.symm⟩
/-! several dicts are locked while a statement runs -/
/-- the groups while their dicts are locked -/
def GLk (K : PySem.W.Frag) (H : Hp) (p : NestedKey × Addr × V) (g : Pol × Pol) : Prop := TPol K H (.ref p.2.1) g.1 ∧ ∃ d o, p.2.2 = .ref d ∧ H d = some (.frz o (.dK (kvOf g.2)))
theorem GLk.same {K : PySem.W.Frag} {H H' : Hp} {p : NestedKey × Addr × V} {g : Pol × Pol} (s : Same H H') (h : GLk K H p g) : GLk K H' p g := by
  obtain ⟨t, d, o, e, z⟩ := h
  exact ⟨t.tp (Same.tp s), d, o, e, s _ _ z⟩
theorem TVs.tq {K : PySem.W.Frag} {H H' : Hp} (q : Tq H H') : ∀ {xs : List V} {ts : List Tm}, TVs K H xs ts → TVs K H' xs ts
  | _, _, .nil => .nil
  | _, _, .cons ⟨a, x, e, hs, hr⟩ t => .cons ⟨a, x, e, q _ _ _ hs, hr.tq q⟩ (TVs.tq q t)
end DR
/-! ### programs that roads run; a law's road -/
namespace DR
open PySem PySem.Spec PyProof.Rows L2
mutual
theorem ctI_parts : ∀ {i : Ins}, CtI i → CI (10 ^ 30) i ∧ NI i ∧ RI (10 ^ 30) i
  | .step c, h => by
    rw [CtI] at h
    rw [CI, NI, RI]
    exact ⟨h, trivial, trivial⟩
  | .turn c, h => by
    rw [CtI] at h
    rw [CI, NI, RI]
    exact ⟨h, trivial, trivial⟩
  | .rep n b, h => by
    rw [CtI] at h
    rw [CI, NI, RI]
    obtain ⟨a, b, c⟩ := ctP_parts h.2.2
    exact ⟨a, ⟨h.1, b⟩, h.2.1, c⟩
theorem ctP_parts : ∀ {b : List Ins}, CtP b → CP (10 ^ 30) b ∧ NP b ∧ RP (10 ^ 30) b
  | [], _ => ⟨by rw [CP]; trivial, by rw [NP]; trivial, by rw [RP]; trivial⟩
  | i :: r, h => by
    rw [CtP_cons] at h
    obtain ⟨a, b, c⟩ := ctI_parts h.1
    obtain ⟨a2, b2, c2⟩ := ctP_parts h.2
    exact ⟨by rw [CP_cons]; exact ⟨a, a2⟩, by rw [NP]; exact ⟨b, b2⟩, by rw [RP_cons]; exact ⟨c, c2⟩⟩
end
mutual
theorem sdI_rp : ∀ i : Ins, (sdI i).length = rpI i
  | .step _ => by rw [sdI, rpI]; rfl
  | .turn _ => by rw [sdI, rpI]; rfl
  | .rep n b => by rw [sdI, rpI, List.length_cons, sdP_rp b]
theorem sdP_rp : ∀ b : List Ins, (sdP b).length = rpP b
  | [] => by rw [sdP_nil, rpP_nil]; rfl
  | i :: r => by rw [sdP_cons, rpP_cons, List.length_append, sdI_rp i, sdP_rp r]
end
theorem GdP.prog {b : List Ins} {k N m : Nat} (h : GdP b k N m) (hk : k ≤ 2) (hN : N ≤ 100) (hm : m ≤ 5) : ProgOk b := by
  obtain ⟨a1, a2, a3⟩ := ctP_parts h.g
  exact ⟨by have := h.d; omega, a1, a2, a3, Nat.le_trans h.c hN, by rw [sdP_rp]; exact Nat.le_trans h.r hm, (h.ok (by omega)).w⟩
/-- a pen and a road's lists are what changes -/
def M3 (p D T : Addr) : Addr → Prop := fun b => b = p ∨ b = D ∨ b = T
theorem M3.mok {p D T : Addr} {H : Hp} {kvs : List (Key × V)} {xs ys : List V} (hp : H p = some (.dK kvs)) (hD : H D = some (.lst xs)) (hT : H T = some (.lst ys)) : MOk (M3 p D T) p H :=
  ⟨.inl rfl, fun b h => h.elim .inl fun z => z.elim (fun e => .inr ⟨xs, e ▸ hD⟩) fun e => .inr ⟨ys, e ▸ hT⟩, kvs, hp⟩
/-- a road that was made just now -/
theorem RoadAt.made {K : PySem.W.Frag} {C p r D T dx : Addr} {H' : Hp} {q : Int} (e : H' r = some (.ins C dx (roF q D T))) (hD : H' D = some (.lst [])) (hT : H' T = some (.lst [])) (np : r ≠ p) (ne : D ≠ T) : RoadAt K C (M3 p D T) H' r D T q [] [] := by
  refine ⟨⟨dx, e⟩, ⟨[], hD, .nil⟩, ⟨[], hT, .nil⟩, .inr (.inl rfl), .inr (.inr rfl), fun z => ?_, ne, Nat.zero_le _, Nat.zero_le _, Lgl.nil⟩
  rcases z with z | z | z
  · exact np z
  · rw [z, hD] at e
    cases e
  · rw [z, hT] at e
    cases e
/-- data of before a road was made -/
theorem M3.data {K : PySem.W.Frag} {p D T : Addr} {H : Hp} {kvs : List (Key × V)} {v : V} {d : PyData} (hp : H p = some (.dK kvs)) (nD : H D = none) (nT : H T = none) (h : Dp K H v d) : Dp K (erM (M3 p D T) H) v d := by
  refine Dp.kpd hp (fun b o n e => erM_of (fun z => ?_) e) h
  rcases z with z | z | z
  · exact n z
  · rw [z, nD] at e
    cases e
  · rw [z, nT] at e
    cases e
/-- a law's pen, its road, and a program of its own -/
structure LawR (K : PySem.W.Frag) (C p c : Addr) (n : Nat) (H : Hp) (r D T : Addr) (q : Int) (as bs : List Act) (u : V) (d : PyData) : Prop where
  pen : PenAt H p c n
  road : RoadAt K C (M3 p D T) H r D T q as bs
  mok : MOk (M3 p D T) p H
  code : Dp K (erM (M3 p D T) H) u d
  cell : c ≠ D ∧ c ≠ T
section
variable {K : PySem.W.Frag} {C p c r D T : Addr} {n m : Nat} {H H' : Hp} {q : Int} {as bs as' bs' : List Act} {u : V} {d : PyData}
theorem LawR.dp (L : LawR K C p c n H r D T q as bs u d) : Dp K H u d := Dp.same erM_le L.code
theorem LawR.kp (L : LawR K C p c n H r D T q as bs u d) (k : Kp p H H') (pen : PenAt H' p c m) : LawR K C p c m H' r D T q as bs u d := by
  refine ⟨pen, L.road.kp L.mok k, ⟨L.mok.pen, fun b h => ?_, ?_⟩, Dp.same (Kst.er (k.ks L.mok.pen)) L.code, L.cell⟩
  · rcases L.mok.lists b h with e | ⟨xs, e⟩
    · exact .inl e
    · by_cases z : b = p
      · exact .inl z
      · exact .inr ⟨xs, k _ _ z e⟩
  · obtain ⟨_, _, _, e, _⟩ := pen.ex
    exact ⟨_, e⟩
theorem LawR.same (L : LawR K C p c n H r D T q as bs u d) (s : Same H H') : LawR K C p c n H' r D T q as bs u d := L.kp (Same.kp s) (L.pen.same s)
theorem LawR.mono (L : LawR K C p c n H r D T q as bs u d) (h : n ≤ m) : LawR K C p c m H r D T q as bs u d := ⟨L.pen.mono h, L.road, L.mok, L.code, L.cell⟩
theorem LawR.own (L : LawR K C p c n H r D T q as bs u d) (k : Kst (Own2 D T) H H') (mok : MOk (M3 p D T) p H') (road : RoadAt K C (M3 p D T) H' r D T q as' bs') : LawR K C p c n H' r D T q as' bs' u d := by
  obtain ⟨ns, x, y, hp, hc, h0, h9⟩ := L.pen.ex
  obtain ⟨xs, hD, _⟩ := L.road.dn
  obtain ⟨ys, hT, _⟩ := L.road.tb
  have n1 := ne_of hp hD (by intro z; cases z)
  have n2 := ne_of hp hT (by intro z; cases z)
  have kM : Kst (M3 p D T) H H' := k.sub fun b z => .inr z
  exact ⟨⟨ns, x, y, k _ _ (fun z => z.elim n1 n2) hp, k _ _ (fun z => z.elim L.cell.1 L.cell.2) hc, h0, h9⟩, road, mok, Dp.same kM.er L.code, L.cell⟩
end
/-! two walkers -/
end DR
namespace DR
open PySem PySem.Spec PyProof.Rows L2
/-! ### dead ends -/
/-! the words that leave a dead end -/
/-! what the defs promise -/
/-- a list of pairs at L -/
def LstP (K : PySem.W.Frag) (H : Hp) (L : Addr) (f : Pol) : Prop := ∃ ys, H L = some (.lst ys) ∧ Prs K H ys f
theorem LstP.kp {K : PySem.W.Frag} {H H' : Hp} {p c L : Addr} {n : Nat} {f : Pol} (pen : PenAt H p c n) (k : Kp p H H') (h : LstP K H L f) : LstP K H' L f := by
  obtain ⟨ys, h1, h2⟩ := h
  exact ⟨ys, k _ _ (pen_nl pen h1) h1, Prs.tp (pen.tp k) h2⟩
theorem LstP.same {K : PySem.W.Frag} {H H' : Hp} {L : Addr} {f : Pol} (s : Same H H') (h : LstP K H L f) : LstP K H' L f := by
  obtain ⟨ys, h1, h2⟩ := h
  exact ⟨ys, s _ _ h1, Prs.tp (Same.tp s) h2⟩
end DR
/-! ### words, calls, and what walkers are told -/
namespace DR
open PySem PySem.Spec PyProof.Rows L2 TL
/-- small letters only -/
def Ltr (z : Str) : Prop := ∀ c ∈ tl z, 97 ≤ c ∧ c ≤ 122
theorem nameOk_of {z : Str} (h : Ltr z) (h1 : 1 ≤ z.length) (h8 : z.length ≤ 8) : nameOk z = true := by
  unfold nameOk
  rw [decide_eq_true ⟨h1, h8⟩, Bool.true_and]
  exact decide_eq_true h
theorem joinL_nil : ∀ ps : List (List Nat), joinL [] ps = ps.flatten
  | [] => rfl
  | [p] => by
    show p = p ++ []
    rw [List.append_nil]
  | p :: q :: r => by
    show p ++ ([] ++ joinL [] (q :: r)) = p ++ (q :: r).flatten
    rw [joinL_nil (q :: r), List.nil_append]
theorem tl_empty : tl ("" : Str) = [] := by decide +kernel
theorem tl_glue (ys : List Str) : tl (Txt.join "" ys) = (ys.map tl).flatten := by
  rw [join_eq, tl_join, tl_empty, joinL_nil]
/-- one letter each -/
def One (z : Str) : Prop := z.length = 1 ∧ Ltr z
theorem one_glue : ∀ {ys : List Str}, (∀ z ∈ ys, One z) → (Txt.join "" ys).length = ys.length ∧ Ltr (Txt.join "" ys) ∧ (ys.map (·.length)).sum = ys.length := by
  intro ys h
  have go : ((ys.map tl).flatten.length = ys.length ∧ (ys.map (·.length)).sum = ys.length) ∧ ∀ c ∈ (ys.map tl).flatten, 97 ≤ c ∧ c ≤ 122 := by
    induction ys with
    | nil => exact ⟨⟨rfl, rfl⟩, fun c h => absurd h List.not_mem_nil⟩
    | cons z r ih =>
      obtain ⟨⟨e1, e2⟩, e3⟩ := ih fun y hy => h y (List.mem_cons_of_mem _ hy)
      obtain ⟨z1, z2⟩ := h z List.mem_cons_self
      have z1' := z1
      rw [len_tl] at z1'
      refine ⟨⟨?_, ?_⟩, fun c hc => ?_⟩
      · rw [List.map_cons, List.flatten_cons, List.length_append, e1, z1', List.length_cons]
        omega
      · rw [List.map_cons, List.sum_cons, e2, List.length_cons]
        show z.length + _ = _
        omega
      · rw [List.map_cons, List.flatten_cons] at hc
        exact (List.mem_append.mp hc).elim (z2 c) (e3 c)
  refine ⟨?_, ?_, go.1.2⟩
  · rw [len_tl, tl_glue]
    exact go.1.1
  · intro c hc
    rw [tl_glue] at hc
    exact go.2 c hc
theorem abc_at : ∀ i : Nat, i < 26 → (tl ("abcdefghijklmnopqrstuvwxyz" : Str))[i]? = some (97 + i) := by decide +kernel
theorem abc_mem : ∀ i ∈ tl ("abcdefghijklmnopqrstuvwxyz" : Str), 97 ≤ i ∧ i ≤ 122 := by decide +kernel
theorem tl_one (i : Nat) : tl (⟨#[i]⟩ : Str) = [i] := rfl
theorem one_of {i : Nat} (h : 97 ≤ i ∧ i ≤ 122) : One ⟨#[i]⟩ := ⟨rfl, fun c hc => by
  rw [tl_one, List.mem_singleton] at hc
  rw [hc]
  exact h⟩
/-- [a drawn letter for k in range(a drawn number)] -/
theorem lcPenL {p c : Addr} {σ : L2.St} {H : Hp} {vs : List Nat} {i : Nat} {te : TE} {ta : TA} {Q : VK} (b0 cost : Nat) (R : Str → Prop) (P : Nat → Prop) (hv : ∀ S : List V → Hp → Prop, (∀ N H1, P N → N ≤ 1000 → Kp p H H1 → PenAt H1 p c b0 → S [V.int ((N : Nat) : Int)] H1) → ta σ H S)
    (hw : ∀ x, wipe ((wipe σ vs).set i (some x)) vs = wipe σ vs)
    (he : ∀ (m : Nat) H2, m < 1000 → PenAt H2 p c (b0 + cost * m) → ∀ S : VK, (∀ x H3, R x → Kp p H2 H3 → PenAt H3 p c (b0 + cost * (m + 1)) → S (.str x) H3) → te ((wipe σ vs).set i (some (.int (0 + (m : Int))))) H2 S)
    (k : ∀ N D H2 (ns : List Str), P N → Kp p H H2 → PenAt H2 p c (b0 + cost * N) → H2 D = some (.lst (ns.map V.str)) → ns.length = N → (∀ x ∈ ns, R x) → Q (.ref D) H2) : tLc (iRng1 ta) (gName i) tYes te vs σ H Q := by
  refine hv _ fun N H1 hP hN k1 pen => ⟨_, rfl, by omega, by omega, fun D nD => ?_⟩
  have npD := pen.np nD
  have ncD := pen.nc nD
  refine lc_range (lo := 0) (n := ((N : Nat) : Int).toNat) (fun m H2 => Kp p H1 H2 ∧ PenAt H2 p c (b0 + cost * m) ∧ ∃ ns : List Str, H2 D = some (.lst (ns.map V.str)) ∧ ns.length = m ∧ ∀ x ∈ ns, R x) ⟨Same.kp (same_new nD), pen.same (same_new nD), [], upd_same, rfl, fun t h => absurd h List.not_mem_nil⟩ ?_ ?_
  · rintro m H2 hm ⟨k2, pen2, ns, hD, hl, hr⟩
    rw [Int.toNat_natCast] at hm
    refine ⟨hw _, ?_⟩
    dsimp only [tYes]
    rw [if_pos rfl]
    refine he m H2 (by omega) pen2 _ fun x H3 rx k3 pen3 => ?_
    have hD3 := k3 _ _ npD hD
    refine ⟨_, hD3, sl_lt (by rw [List.length_map]; omega), fun y o ny ey => ?_, pen3.upd npD ncD, ns ++ [x], ?_, by rw [List.length_append, hl]; rfl, fun y hy => ?_⟩
    · rw [upd_ne (ne_of_none ey nD)]
      exact k3 _ _ ny (k2 _ _ ny ey)
    · rw [upd_same, List.map_append]
      rfl
    · rcases List.mem_append.mp hy with h | h
      · exact hr y h
      · rw [List.mem_singleton.mp h]
        exact rx
  · rintro H2 ⟨k2, pen2, ns, hD, hl, hr⟩
    rw [Int.toNat_natCast] at pen2 hl
    exact k N D H2 ns hP (k1.trans k2) pen2 hD hl hr
def sp__law_word : Sp := fun vs H Q _ => ∃ (p c : Addr) (n : Nat), vs = [.ref p] ∧ PenAt H p c n ∧ n < 2 ^ 38 ∧ ∀ z H', Kp p H H' → PenAt H' p c (n + 9) → Ltr z → 1 ≤ z.length → z.length ≤ 8 → Q (.str z) H'
/-- the last letter says whose name it is -/
def Tail (z : Str) (k : Nat) : Prop := ∃ pre d, d < 2 ∧ tl z = pre ++ [97 + d * 7 + k]
theorem Tail.ne {z y : Str} {k m : Nat} (hk : k < 7) (hm : m < 7) (a : Tail z k) (b : Tail y m) (e : z = y) : k = m := by
  obtain ⟨p1, d1, l1, e1⟩ := a
  obtain ⟨p2, d2, l2, e2⟩ := b
  rw [e, e2] at e1
  obtain ⟨_, q⟩ := List.append_inj' e1 rfl
  have := (List.cons.inj q).1
  omega
def sp__law_calls : Sp := fun vs H Q _ => ∃ (p c : Addr) (many : Int) (n : Nat), vs = [.ref p, .int many] ∧ 0 ≤ many ∧ many ≤ 7 ∧ PenAt H p c n ∧ n < 2 ^ 38 ∧
  ∀ (L : Addr) (ns : List Str) (H' : Hp), H L = none → Kp p H H' → PenAt H' p c (n + 25) → H' L = some (.lst (ns.map V.str)) → ns.length = many.toNat → ns.Nodup → (∀ z ∈ ns, nameOk z = true) → Q (.ref L) H'
theorem cp_up {R S : Nat} (hRS : R ≤ S) {b : List Ins} {N : Nat} (h : Flat b N R) : CP S b := flat_cp ⟨h.len, h.flat, fun i hi => Nat.le_trans (h.cnt i hi) hRS⟩
/-- a program that stays near, and ends soon -/
structure Mild (b : List Ins) (k N m : Nat) : Prop where
  gd : GdP b k N m
  rp : RP 5 b
  cp : CP 4 b
theorem Flat.mild {b : List Ins} {N R : Nat} (h : Flat b N R) (hR : R ≤ 4) : Mild b 0 N 0 := ⟨h.gd (Nat.le_trans hR (by decide +kernel)), (flat_np h.flat).2, cp_up hR h⟩
theorem Mild.app {b c : List Ins} {k j N M m l : Nat} (h : Mild b k N m) (h2 : Mild c j M l) : Mild (b ++ c) (max k j) (N + M) (m + l) := ⟨h.gd.app h2.gd, RP_app _ _ h.rp h2.rp, CP_app h.cp h2.cp⟩
theorem Mild.rep {b : List Ins} {k N m : Nat} {n : Int} (h : Mild b k N m) (h0 : 0 ≤ n) (h5 : n ≤ 5) : Mild [.rep n b] (k + 1) (N + 1) (m + 1) := by
  refine ⟨h.gd.rep h0 (Int.le_trans h5 (by decide +kernel)), ?_, ?_⟩
  · rw [RP_cons, RI]
    exact ⟨⟨h5, h.rp⟩, by rw [RP]; trivial⟩
  · rw [CP_cons, CI]
    exact ⟨h.cp, by rw [CP]; trivial⟩
theorem Mild.up {b : List Ins} {k j N M m l : Nat} (h : Mild b k N m) (h1 : k ≤ j) (h2 : N ≤ M) (h3 : m ≤ l) : Mild b j M l := ⟨h.gd.up h1 h2 h3, h.rp, h.cp⟩
theorem Mild.ex {b : List Ins} {k N m : Nat} (h : Mild b k N m) : exP b ≤ ((N * 5 ^ k : Nat) : Int) := Int.le_trans (ex_bd (R := 5) (by decide) k b h.gd.d (ctP_parts h.gd.g).2.1 h.rp) (Int.ofNat_le.mpr (Nat.mul_le_mul_right _ h.gd.c))
def sp__law_small_program (K : PySem.W.Frag) : Sp := fun vs H Q _ => ∃ (p c : Addr) (n : Nat), vs = [.ref p] ∧ PenAt H p c n ∧ n < 2 ^ 38 ∧
  ∀ v b H', Kp p H H' → PenAt H' p c (n + 30) → PV K (er H H') v b → Mild b 1 6 1 → Q v H'
theorem ltr_cut {z : Str} (h : Ltr z) (lo hi : Option Int) : Ltr (cutS z lo hi) := fun c hc => h c (List.mem_of_mem_drop (List.mem_of_mem_take hc))
theorem ltr_app {a b : Str} (h1 : Ltr a) (h2 : Ltr b) : Ltr (a ++ b) := fun c hc => by
  rw [tl_append] at hc
  exact (List.mem_append.mp hc).elim (h1 c) (h2 c)
theorem cut_lenI (z : Str) (hi : Option Int) : (cutS z none hi).length ≤ HT.sIx z.length z.length hi := by
  rw [len_tl]
  show (List.take (HT.sIx z.length z.length hi - HT.sIx z.length 0 none) (List.drop (HT.sIx z.length 0 none) z.cps.toList)).length ≤ _
  rw [List.length_take]
  omega
theorem cut_end {z : Str} (h8 : z.length ≤ 8) : (cutS z none (some (-1))).length ≤ 7 := by
  refine Nat.le_trans (cut_lenI z _) ?_
  generalize z.length = n at h8
  revert n
  decide
theorem cut_one {z : Str} (h8 : z.length ≤ 8) : (cutS z none (some 1)).length ≤ 7 := by
  refine Nat.le_trans (cut_lenI z _) ?_
  generalize z.length = n at h8
  revert n
  decide
theorem ltr_empty : Ltr "" := fun c hc => by
  rw [tl_empty] at hc
  cases hc
/-- an action that a road takes -/
def ActOk (as : List Act) : Act → Prop
  | .enter n pl => nameOk n = true ∧ n ∉ namesOf as ∧ pl.natAbs ≤ 10 ^ 30
  | .run n d b => n ∈ namesOf as ∧ ProgOk b ∧ IsP d b
def sp__law_act (K : PySem.W.Frag) (C : Addr) : Sp := fun vs H Q _ => ∃ (r D T p : Addr) (q : Int) (as bs : List Act) (M : Addr → Prop) (v : V) (a : Act), vs = [.ref r, v] ∧ RoadAt K C M H r D T q as bs ∧ MOk M p H ∧ ActV K H v a ∧ ActOk as a ∧ as.length < 1000 ∧
  ∀ H', Kst (Own2 D T) H H' → MOk M p H' → RoadAt K C M H' r D T q (as ++ [a]) [] → Q .non H'
/-- an action, as data -/
def actD : Act → PyData
  | .enter n pl => .tuple [.str "enter", .str n, .int pl]
  | .run n d _ => .tuple [.str "run", .str n, d]
theorem ActV.dp {K : PySem.W.Frag} {G : Hp} {v : V} {a : Act} (h : ActV K G v a) : Dp K G v (actD a) := by
  cases a with
  | enter n pl =>
    obtain ⟨t, rfl, z⟩ := h
    exact .tup z (.cons (.str _) (.cons (.str _) (.cons (.int _) .nil)))
  | run n d b =>
    obtain ⟨t, u, rfl, z, hd, hp⟩ := h
    exact .tup z (.cons (.str _) (.cons (.str _) (.cons hd .nil)))
theorem ActVs.dp {K : PySem.W.Frag} {G : Hp} : ∀ {xs : List V} {as : List Act}, ActVs K G xs as → DpAll K G xs (as.map actD)
  | [], [], _ => .nil
  | v :: xs, a :: as, h => by
    cases h with
    | cons h1 h2 => exact .cons h1.dp (ActVs.dp h2)
/-- an action, copied: new but for what never changes -/
def sp_copied_action (K : PySem.W.Frag) : Sp := fun vs H Q _ => ∃ (v : V) (a : Act), vs = [v] ∧ ActV K H v a ∧ (∀ n d b, a = .run n d b → dpP b < 3 ∧ cnP b ≤ 1000) ∧ ∀ v' H', Same H H' → ActV K (er H H') v' a → Q v' H'
def sp_actions (K : PySem.W.Frag) (C : Addr) : Sp := fun vs H Q _ => ∃ (r D T : Addr) (q : Int) (as bs : List Act) (M : Addr → Prop), vs = [.ref r] ∧ RoadAt K C M H r D T q as bs ∧
  ∀ L ys H', Same H H' → H L = none → H' L = some (.lst ys) → ActVs K (er1 L (er H H')) ys as → Q (.ref L) H'
theorem ActVs.app {K : PySem.W.Frag} {G : Hp} : ∀ {xs ys : List V} {as bs : List Act}, ActVs K G xs as → ActVs K G ys bs → ActVs K G (xs ++ ys) (as ++ bs)
  | [], _, [], _, _, h => h
  | v :: xs, ys, a :: as, bs, h, h2 => by
    cases h with
    | cons h1 h3 => exact .cons h1 (ActVs.app h3 h2)
theorem ActVs.take {K : PySem.W.Frag} {G : Hp} : ∀ {xs : List V} {as : List Act} (n : Nat), ActVs K G xs as → ActVs K G (xs.take n) (as.take n)
  | _, _, 0, _ => by
    rw [List.take_zero, List.take_zero]
    exact .nil
  | [], [], n + 1, _ => .nil
  | v :: xs, a :: as, n + 1, h => by
    cases h with
    | cons h1 h3 => exact .cons h1 (ActVs.take n h3)
theorem ActVs.at {K : PySem.W.Frag} {G : Hp} {xs : List V} {as : List Act} {j : Nat} {x : V} (h : ActVs K G xs as) (e : xs[j]? = some x) : ∃ a, as[j]? = some a ∧ ActV K G x a := h.get e
/-! beside what was there, while a pen moves -/
theorem er_dict {H0 H : Hp} {p : Addr} {kvs kvs0 : List (Key × V)} (h0 : H0 p = some (.dK kvs0)) (h : H p = some (.dK kvs)) : er H0 H p = some (.dK kvs) := er_of h fun xs z => by
  rw [h0] at z
  cases z
theorem er_tpk {H0 H : Hp} {p : Addr} {kvs0 : List (Key × V)} (h0 : H0 p = some (.dK kvs0)) (k : Kp p H0 H) : Tp H (er H0 H) := by
  have ne : ∀ {b : Addr} {xs : List V}, H0 b = some (.lst xs) → b ≠ p := fun e z => by
    rw [z, h0] at e
    cases e
  exact ⟨fun b xs e => er_of e fun ys z => (by
    rw [k _ _ (ne z) z] at e
    cases e), fun b o u e => er_of e fun ys z => (by
    rw [k _ _ (ne z) z] at e
    cases e)⟩
theorem none_k {p a : Addr} {H H' : Hp} (k : Kp p H H') (d : ∃ kvs, H' p = some (.dK kvs)) (h : H' a = none) : H a = none := by
  cases e : H a with
  | none => rfl
  | some o =>
    by_cases z : a = p
    · obtain ⟨kvs, q⟩ := d
      rw [z, q] at h
      cases h
    · rw [k _ _ z e] at h
      cases h
section
variable {K : PySem.W.Frag} {H0 H H' : Hp} {p c : Addr} {n m : Nat} {v : V} {i : Ins} {b : List Ins} {xs : List V}
theorem IV.ek (p0 : PenAt H0 p c n) (p1 : PenAt H p c m) (k : Kp p H H') (h : IV K (er H0 H) v i) : IV K (er H0 H') v i := by
  obtain ⟨d, hd, z⟩ := h
  obtain ⟨_, _, _, e0, _⟩ := p0.ex
  obtain ⟨_, _, _, e1, _⟩ := p1.ex
  exact ⟨d, Dp.kpd (er_dict e0 e1) (er_kp k) hd, z⟩
theorem PV.ek (p0 : PenAt H0 p c n) (p1 : PenAt H p c m) (k : Kp p H H') (h : PV K (er H0 H) v b) : PV K (er H0 H') v b := by
  obtain ⟨d, hd, z⟩ := h
  obtain ⟨_, _, _, e0, _⟩ := p0.ex
  obtain ⟨_, _, _, e1, _⟩ := p1.ex
  exact ⟨d, Dp.kpd (er_dict e0 e1) (er_kp k) hd, z⟩
theorem IVs.ek (p0 : PenAt H0 p c n) (p1 : PenAt H p c m) (k : Kp p H H') : ∀ {xs : List V} {b : List Ins}, IVs K (er H0 H) xs b → IVs K (er H0 H') xs b
  | [], [], _ => .nil
  | x :: xs, i :: b, h => by
    cases h with
    | cons h1 h2 => exact .cons (h1.ek p0 p1 k) (IVs.ek p0 p1 k h2)
/-- what is made now stands there -/
theorem PenAt.dk (h : PenAt H p c n) : ∃ kvs, H p = some (.dK kvs) := by
  obtain ⟨_, _, _, e, _⟩ := h.ex
  exact ⟨_, e⟩
end
/-- every action is one that a road takes -/
def Taken (as : List Act) : Prop := ∀ j a, as[j]? = some a → ActOk (as.take j) a
theorem Taken.nil : Taken [] := fun j a h => by cases h
theorem Taken.take {as : List Act} (h : Taken as) (k : Nat) : Taken (as.take k) := fun j x e => by
  rw [List.getElem?_take] at e
  split at e
  · next lt =>
    have := h j x e
    rwa [List.take_take, Nat.min_eq_left (by omega)]
  · cases e
theorem Taken.snoc {as : List Act} {a : Act} (h : Taken as) (ok : ActOk as a) : Taken (as ++ [a]) := fun j x e => by
  by_cases lt : j < as.length
  · rw [List.getElem?_append_left lt] at e
    rw [List.take_append_of_le_length (by omega)]
    exact h j x e
  · have e2 : j = as.length := by
      have := (List.getElem?_eq_some_iff.mp e).1
      rw [List.length_append] at this
      show j = as.length
      have l1 : [a].length = 1 := rfl
      omega
    subst e2
    rw [List.getElem?_append_right (Nat.le_refl _), Nat.sub_self] at e
    cases e
    rw [List.take_append_of_le_length (Nat.le_refl _), List.take_length]
    exact ok
theorem Taken.lg {as : List Act} (h : Taken as) : Lgl as := by
  have go : ∀ j, j ≤ as.length → Lgl (as.take j) := fun j => by
    induction j with
    | zero =>
      intro _
      rw [List.take_zero]
      exact .nil
    | succ j ih =>
      intro hj
      have ih := ih (by omega)
      have at_ : as[j]? = some as[j] := List.getElem?_eq_getElem (by omega)
      have ok := h j _ at_
      obtain ⟨names, _⟩ := ih.names
      rw [take_snoc at_]
      refine ih.snoc ?_
      generalize as[j] = a at ok
      cases a with
      | enter n pl => exact ⟨gS_none.mpr (by rw [names]; exact ok.2.1), ok.2.2⟩
      | run n d b =>
        refine ⟨?_, ok.2.1, ok.2.2⟩
        cases e : gS (stO (as.take j)) n with
        | some z => exact ⟨z, rfl⟩
        | none => exact absurd ok.1 (by rw [← names]; exact gS_none.mp e)
  have := go as.length (Nat.le_refl _)
  rwa [List.take_length] at this
theorem names_app (as bs : List Act) : namesOf (as ++ bs) = namesOf as ++ namesOf bs := by
  unfold namesOf
  exact List.filterMap_append
/-- a short program, that stays near -/
structure NearP (b : List Ins) : Prop where
  po : ProgOk b
  rp : RP 5 b
  dp : dpP b ≤ 1
  cn : cnP b ≤ 6
  sd : (sdP b).length ≤ 1
theorem NearP.ex {b : List Ins} (h : NearP b) : exP b ≤ 30 := Int.le_trans (ex_bd (R := 5) (by decide) 1 b h.dp h.po.np h.rp) (Int.ofNat_le.mpr (Nat.mul_le_mul_right _ h.cn))
/-- actions that grow in a list, while a pen moves -/
structure ActsR (P : List Ins → Prop) (K : PySem.W.Frag) (p c : Addr) (n : Nat) (H : Hp) (D T : Addr) (as : List Act) (ks : List Str) : Prop where
  pen : PenAt H p c n
  ls : ∃ xs, H D = some (.lst xs) ∧ ActVs K (erM (M3 p D T) H) xs as
  kn : H T = some (.lst (ks.map V.str))
  ne : D ≠ T
  np : D ≠ p ∧ T ≠ p
  nc : D ≠ c ∧ T ≠ c
  tk : Taken as
  nr : ∀ n d b, Act.run n d b ∈ as → P b
section
variable {P : List Ins → Prop} {K : PySem.W.Frag} {p c D T : Addr} {n m : Nat} {H H' : Hp} {as : List Act} {ks : List Str}
theorem ActsR.mok (R : ActsR P K p c n H D T as ks) : MOk (M3 p D T) p H := by
  obtain ⟨_, e⟩ := R.pen.dk
  obtain ⟨_, hD, _⟩ := R.ls
  exact M3.mok e hD R.kn
theorem ActsR.kp (R : ActsR P K p c n H D T as ks) (k : Kp p H H') (pen : PenAt H' p c m) : ActsR P K p c m H' D T as ks := by
  obtain ⟨xs, hD, hA⟩ := R.ls
  exact ⟨pen, ⟨xs, k _ _ R.np.1 hD, hA.same (k.ks R.mok.pen).er⟩, k _ _ R.np.2 R.kn, R.ne, R.np, R.nc, R.tk, R.nr⟩
theorem ActsR.same (R : ActsR P K p c n H D T as ks) (s : Same H H') : ActsR P K p c n H' D T as ks := R.kp (Same.kp s) (R.pen.same s)
theorem ActsR.mono (R : ActsR P K p c n H D T as ks) (h : n ≤ m) : ActsR P K p c m H D T as ks := ⟨R.pen.mono h, R.ls, R.kn, R.ne, R.np, R.nc, R.tk, R.nr⟩
theorem ActsR.add (R : ActsR P K p c n H D T as ks) {xs : List V} {v : V} {a : Act} (hD : H D = some (.lst xs)) (hv : ActV K (erM (M3 p D T) H) v a) (ok : ActOk as a) (nr : ∀ n d b, a = .run n d b → P b) : ActsR P K p c n (upd H D (.lst (xs ++ [v]))) D T (as ++ [a]) ks := by
  obtain ⟨ys, hD2, hA⟩ := R.ls
  rw [hD] at hD2
  cases hD2
  have k : Kst (M3 p D T) H (upd H D (.lst (xs ++ [v]))) := (Kst.refl _ _).upd (.inr (.inl rfl))
  refine ⟨R.pen.upd R.np.1 R.nc.1, ⟨_, upd_same, (hA.same k.er).app (.cons (hv.same k.er) .nil)⟩, by rw [upd_ne R.ne.symm]; exact R.kn, R.ne, R.np, R.nc, R.tk.snoc ok, fun n d b h => ?_⟩
  rcases List.mem_append.mp h with h | h
  · exact R.nr n d b h
  · exact nr n d b (List.mem_singleton.mp h).symm
theorem ActsR.name (R : ActsR P K p c n H D T as ks) (z : Str) : ActsR P K p c n (upd H T (.lst (ks.map V.str ++ [.str z]))) D T as (ks ++ [z]) := by
  obtain ⟨ys, hD, hA⟩ := R.ls
  have k : Kst (M3 p D T) H (upd H T (.lst (ks.map V.str ++ [.str z]))) := (Kst.refl _ _).upd (.inr (.inr rfl))
  exact ⟨R.pen.upd R.np.2 R.nc.2, ⟨ys, by rw [upd_ne R.ne]; exact hD, hA.same k.er⟩, by rw [upd_same, List.map_append]; rfl, R.ne, R.np, R.nc, R.tk, R.nr⟩
/-- data of before, but for lists that may change -/
theorem ActsR.fresh (R : ActsR P K p c n H D T as ks) (pen : PenAt H' p c m) {v : V} {b : List Ins} (h : PV K (er H H') v b) : ∃ d, Dp K (erM (M3 p D T) H') v d ∧ IsP d b := by
  obtain ⟨d, hd, hp⟩ := h
  obtain ⟨_, e⟩ := pen.dk
  exact ⟨d, R.mok.data e hd, hp⟩
end
end DR
/-! ### dials shown, and compared -/
namespace DR
open PySem PySem.Spec PyProof.Rows L2
/-! what a part of a history leaves -/
/-- dicts of dials, in a list -/
abbrev Dks (H : Hp) : List Addr → List Pol → Prop := Paired fun d m => H d = some (.dK (kvOf m))
theorem Dks.same {H H' : Hp} (s : Same H H') : ∀ {ds : List Addr} {ms : List Pol}, Dks H ds ms → Dks H' ds ms
  | [], [], _ => .nil
  | d :: ds, m :: ms, h => by
    cases h with
    | cons h1 h2 => exact .cons (s _ _ h1) (Dks.same s h2)
theorem Dks.kp {p : Addr} {H H' : Hp} (k : Kp p H H') : ∀ {ds : List Addr} {ms : List Pol}, (∀ d ∈ ds, d ≠ p) → Dks H ds ms → Dks H' ds ms
  | [], [], _, _ => .nil
  | d :: ds, m :: ms, n, h => by
    cases h with
    | cons h1 h2 => exact .cons (k _ _ (n d List.mem_cons_self) h1) (Dks.kp k (fun x hx => n x (List.mem_cons_of_mem _ hx)) h2)
theorem Dks.app {H : Hp} : ∀ {ds es : List Addr} {ms ns : List Pol}, Dks H ds ms → Dks H es ns → Dks H (ds ++ es) (ms ++ ns)
  | [], _, [], _, _, h => h
  | d :: ds, es, m :: ms, ns, h, h2 => by
    cases h with
    | cons h1 h3 => exact .cons h1 (Dks.app h3 h2)
theorem Dks.at {H : Hp} : ∀ {ds : List Addr} {ms : List Pol} {j : Nat} {m : Pol}, Dks H ds ms → ms[j]? = some m → ∃ d, ds[j]? = some d ∧ H d = some (.dK (kvOf m))
  | [], [], _, _, _, e => by cases e
  | d :: ds, m :: ms, 0, _, h, e => by
    cases e
    cases h with
    | cons h1 h2 => exact ⟨d, rfl, h1⟩
  | d :: ds, m :: ms, j + 1, _, h, e => by
    cases h with
    | cons h1 h2 => exact Dks.at (j := j) h2 e
theorem Dks.len {H : Hp} {ds : List Addr} {ms : List Pol} (h : Dks H ds ms) : ds.length = ms.length := Paired.length h
theorem Dks.upd {H : Hp} {D : Addr} {o : HO} : ∀ {ds : List Addr} {ms : List Pol}, (∀ d ∈ ds, d ≠ D) → Dks H ds ms → Dks (upd H D o) ds ms
  | [], [], _, _ => .nil
  | d :: ds, m :: ms, n, h => by
    cases h with
    | cons h1 h2 => exact .cons (by rw [upd_ne (n d List.mem_cons_self)]; exact h1) (Dks.upd (fun x hx => n x (List.mem_cons_of_mem _ hx)) h2)
/-! actions, as text -/
theorem Taken.name {as : List Act} (h : Taken as) : ∀ z ∈ namesOf as, nameOk z = true := fun z hz => by
  obtain ⟨a, ha, e⟩ := List.mem_filterMap.mp hz
  obtain ⟨j, hj⟩ := List.getElem?_of_mem ha
  have ok := h j a hj
  cases a with
  | enter n pl =>
    cases e
    exact ok.1
  | run n d b => cases e
theorem names_take {as : List Act} {j : Nat} {z : Str} (h : z ∈ namesOf (as.take j)) : z ∈ namesOf as := by
  have e := names_app (as.take j) (as.drop j)
  rw [List.take_append_drop] at e
  rw [e]
  exact List.mem_append_left _ h
theorem name_fits {z : Str} (h : nameOk z = true) : Fits 82 0 (.str z) := by
  unfold nameOk at h
  rw [Bool.and_eq_true, decide_eq_true_iff, decide_eq_true_iff] at h
  exact fits_txt (n := 8) (fun c hc => Nat.lt_of_le_of_lt (h.2 c hc).2 (by decide)) h.1.2
theorem act_fits {as : List Act} (h : Taken as) : ∀ d ∈ as.map actD, Fits 16000 8 d := fun d hd => by
  obtain ⟨a, ha, rfl⟩ := List.mem_map.mp hd
  obtain ⟨j, hj⟩ := List.getElem?_of_mem ha
  have ok := h j a hj
  have word : ∀ z : Str, Low z → z.length ≤ 8 → Fits 82 0 (.str z) := fun z hz hl => fits_txt (n := 8) hz hl
  cases a with
  | enter n pl =>
    have big : pl.natAbs < 10 ^ 100 := Nat.lt_of_le_of_lt ok.2.2 (by decide +kernel)
    exact (fits_3 (word "enter" (by decide +kernel) (by decide +kernel)) (name_fits ok.1) (fits_int big)).up (by decide) (by decide)
  | run n d b =>
    have fp := (isP_fits ok.2.2 ok.2.1.w).up (n' := 15005) (k' := 6) (by have := ok.2.1.cn; omega) (by have := ok.2.1.dp; omega)
    exact (fits_3 (word "run" (by decide +kernel) (by decide +kernel)) (name_fits (h.name n (names_take ok.1))) fp).up (by decide) (by decide)
theorem acts_shows {as : List Act} (h : Taken as) (few : as.length ≤ 20) : (PyData.list (as.map actD)).showable = true ∧ ((PyData.list (as.map actD)).hasDict = true → PyData.list (as.map actD) = .dict []) ∧ (PyData.list (as.map actD)).depth ≤ 64 ∧ (PyData.list (as.map actD)).shown.length ≤ sizeLine := by
  have f := (fits_listN (act_fits h)).up (n' := 400000) (k' := 9) (by rw [List.length_map]; omega) (by decide)
  exact ⟨f.sh, fun z => (by rw [f.nd] at z; cases z), Nat.le_trans f.dp (by decide), sl_of (Nat.le_trans f.ln (by decide))⟩
/-! two moments, asked of a road -/
theorem at_end {xs : List V} {n : Nat} {v : V} (hl : xs.length = n + 1) (h : xs[n]? = some v) : atI xs (-1) = some v := by
  have e : ixN xs.length (-1) = some n := by
    unfold ixN
    rw [if_neg (by decide), if_pos (by omega)]
    congr 1
    omega
  unfold atI
  rw [e]
  exact h
/-! one long program -/
/-- a long program without repeats -/
structure LongP (b : List Ins) : Prop where
  po : ProgOk b
  rp : RP 5 b
  dp : dpP b = 0
  cn : cnP b ≤ 60
  sd : (sdP b).length ≤ 1
theorem LongP.ex {b : List Ins} (h : LongP b) : exP b ≤ 60 := Int.le_trans (ex_bd (R := 5) (by decide) 0 b (Nat.le_of_eq h.dp) h.po.np h.rp) (Int.ofNat_le.mpr (Nat.le_trans (Nat.mul_le_mul_right _ h.cn) (by decide)))
theorem all_strs {K : PySem.W.Frag} {H : Hp} : ∀ ss : List Str, DpAll K H (ss.map V.str) (ss.map PyData.str)
  | [] => .nil
  | s :: r => .cons (.str s) (all_strs r)
end DR
/-! ### what is accepted is written in one way; beginnings and their completions -/
/-! ### beginnings that are completed -/
/-! ### a list of texts, counted -/
namespace DR
open PySem PySem.Spec PyProof.Rows L2
theorem lay_low {t : Str} (h : Low t) : PyData.canLay0 (.str t) = true := by
  rw [PyData.canLay0.eq_4, PyData.strOk.eq_1]
  rw [Array.all_eq_true']
  intro x hx
  have := h x (Array.mem_toList_iff.mpr hx)
  exact decide_eq_true (by omega)
end DR
/-! ### histories, drawn -/
namespace DR
open PySem PySem.Spec PyProof.Rows L2 TL
/-- + of two lists, or of two tuples -/
def rCatE (K : PySem.W.Frag) : R2 := fun x y H Q => rCat x y H Q ∨ rCatA K x y H Q
theorem op_catE {X : Cx} : OpR X (binaryOp .Add) (rCatE X.K) := by
  intro pins s σ H x y v u Q I rx ry h
  rcases h with h | h
  · exact op_cat pins s σ H x y v u Q I rx ry h
  · exact op_catA pins s σ H x y v u Q I rx ry h
/-- a program in a list, or in a tuple, that stands in this heap -/
def PVx (K : PySem.W.Frag) (H : Hp) (v : V) (b : List Ins) : Prop := ∃ a xs, v = .ref a ∧ (H a = some (.lst xs) ∨ H a = some (.tup xs)) ∧ IVs K H xs b
theorem PVx.pv {K : PySem.W.Frag} {H : Hp} {v : V} {b : List Ins} (h : PVx K H v b) : PV K H v b := by
  obtain ⟨a, xs, rfl, e | e, hI⟩ := h
  · exact pv_list (SqL.of e) hI
  · exact pv_tup (SqT.of e) hI
theorem PVx.same {K : PySem.W.Frag} {H H' : Hp} {v : V} {b : List Ins} (s : Same H H') (h : PVx K H v b) : PVx K H' v b := by
  obtain ⟨a, xs, rfl, e, hI⟩ := h
  exact ⟨a, xs, rfl, e.imp (s _ _) (s _ _), hI.same s⟩
theorem PVx.ek {K : PySem.W.Frag} {H0 H H' : Hp} {p c : Addr} {n m : Nat} {v : V} {b : List Ins} (p0 : PenAt H0 p c n) (p1 : PenAt H p c m) (k : Kp p H H') (h : PVx K (er H0 H) v b) : PVx K (er H0 H') v b := by
  obtain ⟨a, xs, rfl, e, hI⟩ := h
  obtain ⟨_, e0⟩ := p0.dk
  obtain ⟨_, e1⟩ := p1.dk
  have ne : a ≠ p := fun z => by
    have q := er_dict e0 e1
    rw [z] at e
    rcases e with e | e <;> rw [q] at e <;> cases e
  exact ⟨a, xs, rfl, e.imp (er_kp k _ _ ne) (er_kp k _ _ ne), hI.ek p0 p1 k⟩
def sp__law_small_programX (K : PySem.W.Frag) : Sp := fun vs H Q _ => ∃ (p c : Addr) (n : Nat), vs = [.ref p] ∧ PenAt H p c n ∧ n < 2 ^ 38 ∧
  ∀ v b H', Kp p H H' → PenAt H' p c (n + 30) → PVx K (er H H') v b → Mild b 1 6 1 → Q v H'
theorem small_imp {K : PySem.W.Frag} (vs : List V) (H : Hp) (Q : V → Hp → Prop) (E) (h : sp__law_small_program K vs H Q E) : sp__law_small_programX K vs H Q E := by
  obtain ⟨p, c, n, e, pen, hn, k⟩ := h
  exact ⟨p, c, n, e, pen, hn, fun v b H' kp pen' hv hm => k v b H' kp pen' hv.pv hm⟩
def sp__law_deep_program (K : PySem.W.Frag) : Sp := fun vs H Q _ => ∃ (p c : Addr) (n : Nat), vs = [.ref p] ∧ PenAt H p c n ∧ n < 2 ^ 37 ∧
  ∀ v b H', Kp p H H' → PenAt H' p c (n + 60) → PV K (er H H') v b → Mild b 2 11 3 → Q v H'
/-- a program of a history -/
structure DeepP (b : List Ins) : Prop where
  po : ProgOk b
  rp : RP 5 b
  dp : dpP b ≤ 2
  cn : cnP b ≤ 11
theorem Mild.deep {b : List Ins} (h : Mild b 2 11 3) : DeepP b := ⟨h.gd.prog (by decide) (by decide) (by decide), h.rp, h.gd.d, h.gd.c⟩
theorem DeepP.ex {b : List Ins} (h : DeepP b) : exP b ≤ 275 := Int.le_trans (ex_bd (R := 5) (by decide) 2 b h.dp h.po.np h.rp) (Int.ofNat_le.mpr (Nat.mul_le_mul_right _ h.cn))
theorem op_notInK {X : Cx} (K : PySem.W.Frag) (h : X.K = K) : OpR X (compareOp .NotIn) (rIn K true) := h ▸ op_notIn_seq
/-- [a name for a name in names if ..] -/
theorem lcFilN {K : PySem.W.Frag} {tv' : TE} {σ : L2.St} {H : Hp} {vs : List Nat} {i : Nat} {tt : TT} {te : TE} {Q : VK} {a : Addr} {ns : List Str} (g : Str → Bool) (h1 : H a = some (.lst (ns.map V.str))) (hv : ∀ R : VK, R (.ref a) H → tv' σ H R)
    (hw : ∀ x, wipe ((wipe σ vs).set i (some x)) vs = wipe σ vs) (hn : ns.length ≤ 500000)
    (ht : ∀ x ∈ ns, ∀ H2, Same H H2 → ∀ S : Bool → Hp → Prop, S (g x) H2 → tt ((wipe σ vs).set i (some (.str x))) H2 S)
    (he : ∀ x H2 (S : VK), S (.str x) H2 → te ((wipe σ vs).set i (some (.str x))) H2 S)
    (k : ∀ D H2, Same H H2 → H2 D = some (.lst ((ns.filter g).map V.str)) → Q (.ref D) H2) : tLc (iList K tv') (gName i) tt te vs σ H Q := by
  refine hv _ ⟨a, rfl, ⟨_, SqL.of h1⟩, fun D nD => ?_⟩
  refine lc_it (walk_list (K := K) (a := a) (xs := ns.map V.str)) (fun m H2 => Same H H2 ∧ H2 D = some (.lst (((ns.take m).filter g).map V.str))) ⟨same_new nD, upd_same⟩ ?_ ?_ ?_
  · rintro m H2 _ ⟨s2, _⟩
    exact same_l s2 (SqL.of h1)
  · rintro m v H2 H3 hm ⟨s2, hD⟩ ⟨rfl, gv⟩
    rw [List.length_map] at hm
    have ev : v = .str ns[m] := by
      rw [List.getElem?_map, List.getElem?_eq_getElem hm] at gv
      exact (Option.some.inj gv).symm
    subst ev
    refine ⟨hw _, ?_⟩
    refine ht _ (List.getElem_mem hm) _ s2 _ ?_
    have et : (ns.take (m + 1)).filter g = (ns.take m).filter g ++ [ns[m]].filter g := by rw [List.take_succ_eq_append_getElem hm, List.filter_append]
    cases hp : g ns[m] with
    | true =>
      rw [if_pos rfl]
      refine he _ _ _ ?_
      have hlen := List.length_filter_le g (ns.take m)
      rw [List.length_take] at hlen
      refine ⟨_, hD, sl_lt (by rw [List.length_map]; omega), same_mut s2 nD, ?_⟩
      rw [upd_same, et, List.filter_cons_of_pos hp, List.map_append]
      rfl
    | false =>
      rw [if_neg (by decide)]
      refine ⟨s2, ?_⟩
      rw [hD, et, List.filter_cons_of_neg (by rw [hp]; decide)]
      show _ = some (HO.lst (((ns.take m).filter g ++ []).map V.str))
      rw [List.append_nil]
  · rintro H2 ⟨s2, hD⟩
    rw [List.length_map, List.take_length] at hD
    exact k D H2 s2 hD
theorem strs_shaped : ∀ {ks : List Str}, (∀ z ∈ ks, Low z) → SeqAt.shaped (.list (ks.map PyData.str)) = true := by
  intro ks h
  have go : PyData.canLayAll0 (ks.map PyData.str) = true ∧ PyData.depthAll (ks.map PyData.str) = 0 := by
    induction ks with
    | nil => exact ⟨rfl, rfl⟩
    | cons z r ih =>
      obtain ⟨e1, e2⟩ := ih fun y hy => h y (List.mem_cons_of_mem _ hy)
      constructor
      · show (PyData.canLay0 (.str z) && PyData.canLayAll0 (r.map PyData.str)) = true
        rw [lay_low (h z List.mem_cons_self), e1]
        rfl
      · show max (PyData.depth (.str z)) (PyData.depthAll (r.map PyData.str)) = 0
        rw [e2]
        rfl
  show (PyData.canLayAll0 (ks.map PyData.str) && decide (PyData.depthAll (ks.map PyData.str) + 1 ≤ 64)) = true
  rw [go.1, go.2]
  rfl
theorem eqv_none (ks : List Str) : PyData.eqv (.list (ks.map PyData.str)) (.list []) = decide (ks = []) := by
  cases ks with
  | nil => rfl
  | cons z r => rfl
theorem name_low {z : Str} (h : nameOk z = true) : Low z := by
  unfold nameOk at h
  rw [Bool.and_eq_true, decide_eq_true_iff, decide_eq_true_iff] at h
  exact fun c hc => Nat.lt_of_le_of_lt (h.2 c hc).2 (by decide)
end DR
/-! ### the text of a dict of places -/
/-! ### copies that are spoiled -/
namespace DR
open PySem PySem.Spec PyProof.Rows L2
/-- a program that stands in G by itself, so deep at most, of N rows at most -/
def PX (K : PySem.W.Frag) (G : Hp) (N : Nat) : Nat → V → Prop
  | 0, _ => False
  | k + 1, v => ∃ a xs, v = .ref a ∧ (G a = some (.lst xs) ∨ G a = some (.tup xs)) ∧ xs.length ≤ N ∧
    ∀ x ∈ xs, ∃ t, x = .ref t ∧ ((∃ (w : Str) (n : Int), w ≠ "repeat" ∧ SqT K G t [.str w, .int n]) ∨ ∃ (n : Int) (y : V), SqT K G t [.str "repeat", .int n, y] ∧ PX K G N k y)
/-- one row of it -/
def PXr (K : PySem.W.Frag) (G : Hp) (N k : Nat) (x : V) : Prop := ∃ t, x = .ref t ∧ ((∃ (w : Str) (n : Int), w ≠ "repeat" ∧ SqT K G t [.str w, .int n]) ∨ ∃ (n : Int) (y : V), SqT K G t [.str "repeat", .int n, y] ∧ PX K G N k y)
theorem PX.same {K : PySem.W.Frag} {G G' : Hp} {N : Nat} (s : Same G G') : ∀ {k : Nat} {v : V}, PX K G N k v → PX K G' N k v
  | k + 1, v, ⟨a, xs, e, h, l, r⟩ => ⟨a, xs, e, h.imp (s _ _) (s _ _), l, fun x hx => by
    obtain ⟨t, et, z⟩ := r x hx
    exact ⟨t, et, z.imp (fun ⟨w, n, q, y⟩ => ⟨w, n, q, same_t s y⟩) fun ⟨n, y, q, z⟩ => ⟨n, y, same_t s q, PX.same s z⟩⟩⟩
theorem PXr.same {K : PySem.W.Frag} {G G' : Hp} {N k : Nat} {x : V} (s : Same G G') (h : PXr K G N k x) : PXr K G' N k x := by
  obtain ⟨t, et, z⟩ := h
  exact ⟨t, et, z.imp (fun ⟨w, n, q, y⟩ => ⟨w, n, q, same_t s y⟩) fun ⟨n, y, q, z⟩ => ⟨n, y, same_t s q, PX.same s z⟩⟩
theorem PX.up {K : PySem.W.Frag} {G : Hp} {N : Nat} : ∀ {k : Nat} {v : V}, PX K G N k v → PX K G N (k + 1) v
  | k + 1, v, ⟨a, xs, e, h, l, r⟩ => ⟨a, xs, e, h, l, fun x hx => by
    obtain ⟨t, et, z⟩ := r x hx
    exact ⟨t, et, z.imp id fun ⟨n, y, q, z⟩ => ⟨n, y, q, PX.up z⟩⟩⟩
/-- an action whose program stands by itself -/
def PXa (K : PySem.W.Frag) (G : Hp) (N : Nat) (y : V) : Prop := ∃ t, y = .ref t ∧ ((∃ (n : Str) (pl : Int), SqT K G t [.str "enter", .str n, .int pl]) ∨ ∃ (n : Str) (u : V), SqT K G t [.str "run", .str n, u] ∧ PX K G N 3 u)
theorem PXa.same {K : PySem.W.Frag} {G G' : Hp} {N : Nat} {y : V} (s : Same G G') (h : PXa K G N y) : PXa K G' N y := by
  obtain ⟨t, e, z⟩ := h
  exact ⟨t, e, z.imp (fun ⟨n, pl, q⟩ => ⟨n, pl, same_t s q⟩) fun ⟨n, u, q, x⟩ => ⟨n, u, same_t s q, x.same s⟩⟩
/-- G's lists stand there, with turns behind them -/
structure Grw (K : PySem.W.Frag) (G H : Hp) (c : Nat) : Prop where
  ls : ∀ a xs, G a = some (.lst xs) → ∃ ts, H a = some (.lst (xs ++ ts)) ∧ ts.length ≤ c ∧ ∀ t ∈ ts, ∃ u, t = .ref u ∧ SqT K H u [.str "turn", .int 1]
  tp : Tp G H
/-- all but G's lists stays -/
def KpG (G H H' : Hp) : Prop := ∀ b o, (∀ xs, G b ≠ some (.lst xs)) → H b = some o → H' b = some o
theorem KpG.refl (G H : Hp) : KpG G H H := fun _ _ _ e => e
theorem KpG.trans {G H H1 H2 : Hp} (a : KpG G H H1) (b : KpG G H1 H2) : KpG G H H2 := fun c o n e => b c o n (a c o n e)
theorem Grw.up {K : PySem.W.Frag} {G H : Hp} {c d : Nat} (g : Grw K G H c) (h : c ≤ d) : Grw K G H d := ⟨fun a xs e => by
  obtain ⟨ts, q, l, r⟩ := g.ls a xs e
  exact ⟨ts, q, Nat.le_trans l h, r⟩, g.tp⟩
theorem PX.le {K : PySem.W.Frag} {G : Hp} {N m n : Nat} {v : V} (h : m ≤ n) (p : PX K G N m v) : PX K G N n v := by
  induction h with
  | refl => exact p
  | step _ ih => exact ih.up
theorem Grw.same {K : PySem.W.Frag} {G H H' : Hp} {c : Nat} (g : Grw K G H c) (s : Same H H') : Grw K G H' c := ⟨fun a xs e => by
  obtain ⟨ts, q, l, r⟩ := g.ls a xs e
  exact ⟨ts, s _ _ q, l, fun t ht => by
    obtain ⟨u, e, z⟩ := r t ht
    exact ⟨u, e, same_t s z⟩⟩, g.tp.trans (Same.tp s)⟩
end DR
namespace DR
open PySem PySem.Spec PyProof.Rows L2
/-! ### [what a part gives for parts of anything walked], told by the place -/
theorem lcW {J : It} {n : Nat} {G : Hp → Prop} {Y : Nat → Hp → V → Hp → Prop} {tv : TI} {g : TG} {te : TE} {σ : L2.St} {H : Hp} {vs : List Nat} {Q : VK} (wk : Walk J n G Y) (R : Nat → Hp → V → Prop) (st : ∀ m H1 H2 v, Same H1 H2 → R m H1 v → R m H2 v)
    (hv : ∀ S : It → Hp → Prop, S J H → tv σ H S) (hG : ∀ H', Same H H' → G H') (hn : n ≤ 100000)
    (he : ∀ m x H2 H3, m < n → Same H H2 → Y m H2 x H3 → ∀ S : VK, (∀ v H4, Same H2 H4 → (∀ D, H2 D ≠ none → (∃ xs, H4 D = some (.lst xs)) → R m (er1 D H4) v) → S v H4) → g x (wipe σ vs) H3 fun σ2 H' => wipe σ2 vs = wipe σ vs ∧ te σ2 H' S)
    (k : ∀ D ys H2, H D = none → Same H H2 → H2 D = some (.lst ys) → ys.length = n → (∀ m y, ys[m]? = some y → R m H2 y) → Q (.ref D) H2) : tLc tv g tYes te vs σ H Q := by
  refine hv _ ?_
  intro D nD
  refine lc_it wk (fun m H2 => Same H H2 ∧ ∃ ys, H2 D = some (.lst ys) ∧ ys.length = m ∧ ∀ i y, ys[i]? = some y → R i (er1 D H2) y) ⟨same_new nD, [], upd_same, rfl, fun i y h => by simp at h⟩ (fun m H2 _ z => hG _ z.1) ?_ ?_
  · rintro m x H2 H3 hm ⟨s2, ys, hD, hl, hR⟩ hy
    have key := he m x H2 H3 hm s2 hy (fun v H4 => ∃ acc, H4 D = some (.lst acc) ∧ acc.length < sizeLine ∧ (Same H (upd H4 D (.lst (acc ++ [v]))) ∧ ∃ ys, upd H4 D (.lst (acc ++ [v])) D = some (.lst ys) ∧ ys.length = m + 1 ∧ ∀ i y, ys[i]? = some y → R i (er1 D (upd H4 D (.lst (acc ++ [v])))) y)) fun v H4 s4 hv4 => ?_
    · dsimp only [tYes]
      simp only [if_true]
      exact key
    have hD4 := s4 _ _ hD
    refine ⟨ys, hD4, sl_lt (by omega), same_mut (s2.trans s4) nD, ys ++ [v], upd_same, by rw [List.length_append, hl]; rfl, fun i y hi => ?_⟩
    have put : Same (er1 D H4) (er1 D (upd H4 D (.lst (ys ++ [v])))) := fun a o e => by
      obtain ⟨n1, n2⟩ := er1_at e
      exact er1_of n1 (by rw [upd_ne n1]; exact n2)
    by_cases q : i < ys.length
    · rw [List.getElem?_append_left q] at hi
      refine st _ _ _ _ (fun a o e => ?_) (hR i y hi)
      obtain ⟨n1, n2⟩ := er1_at e
      exact put _ _ (er1_of n1 (s4 _ _ n2))
    · rw [List.getElem?_append_right (by omega)] at hi
      have : i - ys.length = 0 := by
        have := (List.getElem?_eq_some_iff.mp hi).1
        simp only [List.length_singleton] at this
        omega
      rw [this] at hi
      have hi : v = y := Option.some.inj hi
      subst hi
      have e : i = m := by omega
      subst e
      exact st _ _ _ _ put (hv4 D (by rw [hD]; exact fun z => nomatch z) ⟨ys, hD4⟩)
  · rintro H2 ⟨s2, ys, hD, hl, hR⟩
    exact k D ys H2 nD s2 hD hl fun m y h => st _ _ _ _ (fun a o e => (er1_at e).2) (hR m y h)
theorem paired_mk {α β : Type} {R : α → β → Prop} : ∀ {xs : List α} {ys : List β}, xs.length = ys.length → (∀ (i : Nat) (x : α) (y : β), xs[i]? = some x → ys[i]? = some y → R x y) → Paired R xs ys
  | [], [], _, _ => .nil
  | [], _ :: _, h, _ => by cases h
  | _ :: _, [], h, _ => by cases h
  | x :: xs, y :: ys, h, k => .cons (k 0 x y rfl rfl) (paired_mk (Nat.succ.inj h) fun i a b ha hb => k (i + 1) a b (by simpa using ha) (by simpa using hb))
end DR
/-! ### roads as texts -/
namespace DR
open PySem PySem.Spec PyProof.Rows L2 TL
/-- an action whose program is a list all the way down -/
def lsA : Act → Act
  | .enter n pl => .enter n pl
  | .run n _ b => .run n (.list (ldA b)) b
theorem names_ls : ∀ as : List Act, namesOf (as.map lsA) = namesOf as
  | [] => rfl
  | .enter n pl :: r => by
    have ih := names_ls r
    unfold namesOf at ih ⊢
    rw [List.map_cons, List.filterMap_cons, List.filterMap_cons, ih]
    rfl
  | .run n d b :: r => by
    have ih := names_ls r
    unfold namesOf at ih ⊢
    rw [List.map_cons, List.filterMap_cons, List.filterMap_cons, ih]
    rfl
theorem actOk_ls {as : List Act} {a : Act} (h : ActOk as a) : ActOk (as.map lsA) (lsA a) := by
  cases a with
  | enter n pl => exact ⟨h.1, by rw [names_ls]; exact h.2.1, h.2.2⟩
  | run n d b => exact ⟨by rw [names_ls]; exact h.1, h.2.1, .lst (isA_ld b)⟩
theorem taken_ls {as : List Act} (h : Taken as) : Taken (as.map lsA) := fun j a e => by
  rw [List.getElem?_map] at e
  cases q : as[j]? with
  | none =>
    rw [q] at e
    cases e
  | some x =>
    rw [q] at e
    cases e
    rw [← List.map_take]
    exact actOk_ls (h j x q)
theorem lsA_two (a : Act) : lsA (lsA a) = lsA a := by cases a <;> rfl
theorem ls_twice (as : List Act) : (as.map lsA).map lsA = as.map lsA := by
  rw [List.map_map]
  exact List.map_congr_left fun a _ => lsA_two a
/-! what all actions of a history are -/
def OkA : Act → Prop
  | .enter n pl => nameOk n = true ∧ pl.natAbs ≤ 10 ^ 30
  | .run n d b => nameOk n = true ∧ ProgOk b ∧ IsP d b
theorem names_ok {as : List Act} (h : Taken as) : ∀ n ∈ namesOf as, nameOk n = true := fun n hn => by
  obtain ⟨a, ha, e⟩ := List.mem_filterMap.mp hn
  obtain ⟨j, hj⟩ := List.getElem?_of_mem ha
  cases a with
  | enter m pl =>
    cases e
    exact (h j _ hj).1
  | run m d b => cases e
theorem Taken.okA {as : List Act} (h : Taken as) {a : Act} (ha : a ∈ as) : OkA a := by
  obtain ⟨j, hj⟩ := List.getElem?_of_mem ha
  have ok := h j a hj
  cases a with
  | enter n pl => exact ⟨ok.1, ok.2.2⟩
  | run n d b => exact ⟨names_ok (h.take j) n ok.1, ok.2⟩
mutual
theorem cp_ct : ∀ {i : Ins}, CI (10 ^ 30) i → NI i → RI (10 ^ 30) i → CtI i
  | .step c, h, _, _ => by
    rw [CI] at h
    rw [CtI]
    exact h
  | .turn c, h, _, _ => by
    rw [CI] at h
    rw [CtI]
    exact h
  | .rep n b, h, h2, h3 => by
    rw [CI] at h
    rw [NI] at h2
    rw [RI] at h3
    rw [CtI]
    exact ⟨h2.1, h3.1, cpP_ct h h2.2 h3.2⟩
theorem cpP_ct : ∀ {b : List Ins}, CP (10 ^ 30) b → NP b → RP (10 ^ 30) b → CtP b
  | [], _, _, _ => by
    unfold CtP
    trivial
  | i :: r, h, h2, h3 => by
    rw [CP_cons] at h
    rw [NP] at h2
    rw [RP_cons] at h3
    rw [CtP_cons]
    exact ⟨cp_ct h.1 h2.1 h3.1, cpP_ct h.2 h2.2 h3.2⟩
end
theorem ProgOk.ct {b : List Ins} (h : ProgOk b) : CtP b := cpP_ct h.cp h.np h.rp
theorem ProgOk.read {b : List Ins} (h : ProgOk b) : ∃ s, readT (tkP b) = .ok b s := read_back h.ct (by have := h.dp; omega) h.cn (by rw [← sdP_rp]; exact h.sd)
/-! ### lines -/
/-- the tokens behind the first two, or the three -/
def tkA : Act → List Str
  | .enter n pl => ["enter", n, ctS pl]
  | .run n _ b => [("run" : Str), n] ++ tkP b
def lnA (a : Act) : Str := jn (tkA a)
theorem tkA_ls (a : Act) : tkA (lsA a) = tkA a := by cases a <;> rfl
theorem lnA_ls (a : Act) : lnA (lsA a) = lnA a := by
  unfold lnA
  rw [tkA_ls]
def prL (q : Int) : Str := Str.empty ++ "prime " ++ ctS q
def svT (q : Int) (as : List Act) : Str := Txt.join "\n" (prL q :: as.map lnA)
theorem svT_ls (q : Int) (as : List Act) : svT q (as.map lsA) = svT q as := by
  unfold svT
  rw [List.map_map]
  have e : (as.map (lnA ∘ lsA)) = as.map lnA := List.map_congr_left fun a _ => lnA_ls a
  rw [e]
theorem name_tl {n : Str} (h : nameOk n = true) : (∀ c ∈ tl n, 97 ≤ c ∧ c ≤ 122) ∧ tl n ≠ [] ∧ n.length ≤ 8 := by
  unfold nameOk at h
  rw [Bool.and_eq_true, decide_eq_true_iff, decide_eq_true_iff] at h
  refine ⟨h.2, fun z => ?_, h.1.2⟩
  have := h.1.1
  rw [len_tl, z] at this
  exact absurd this (by decide)
theorem words_ok : (32 ∉ tl ("enter" : Str) ∧ 32 ∉ tl ("run" : Str)) ∧ (10 ∉ tl ("enter" : Str) ∧ 10 ∉ tl ("run" : Str) ∧ 10 ∉ tl ("step" : Str) ∧ 10 ∉ tl ("turn" : Str) ∧ 10 ∉ tl ("repeat" : Str) ∧ 10 ∉ tl ("[" : Str) ∧ 10 ∉ tl ("]" : Str)) := by decide +kernel
theorem ct_noline (c : Int) : 10 ∉ tl (ctS c) := by
  by_cases hc : 0 ≤ c
  · obtain ⟨n, rfl⟩ := Int.eq_ofNat_of_zero_le hc
    rw [ct_pos]
    exact numL_free (.inl (by decide))
  · obtain ⟨n, hn0, rfl⟩ : ∃ n : Nat, 0 < n ∧ c = -(n : Int) := ⟨c.natAbs, by omega, by omega⟩
    rw [ct_neg hn0]
    exact fun z => (List.mem_cons.mp z).elim (fun e => by cases e) (numL_free (.inl (by decide)))
mutual
theorem tkI_noline : ∀ {i : Ins} {t : Str}, t ∈ tkI i → 10 ∉ tl t
  | .step c, t, h => by
    unfold tkI at h
    rcases List.mem_cons.mp h with rfl | h
    · exact words_ok.2.2.2.1
    · rw [List.mem_singleton.mp h]
      exact ct_noline c
  | .turn c, t, h => by
    unfold tkI at h
    rcases List.mem_cons.mp h with rfl | h
    · exact words_ok.2.2.2.2.1
    · rw [List.mem_singleton.mp h]
      exact ct_noline c
  | .rep n b, t, h => by
    rw [tkI] at h
    rcases List.mem_append.mp h with h | h
    · rcases List.mem_cons.mp h with rfl | h
      · exact words_ok.2.2.2.2.2.1
      rcases List.mem_cons.mp h with rfl | h
      · exact ct_noline n
      rw [List.mem_singleton.mp h]
      exact words_ok.2.2.2.2.2.2.1
    · rcases List.mem_append.mp h with h | h
      · exact tkP_noline h
      · rw [List.mem_singleton.mp h]
        exact words_ok.2.2.2.2.2.2.2
theorem tkP_noline : ∀ {b : List Ins} {t : Str}, t ∈ tkP b → 10 ∉ tl t
  | [], t, h => by
    rw [tkP_nil] at h
    exact absurd h List.not_mem_nil
  | i :: r, t, h => by
    rw [tkP_cons] at h
    exact (List.mem_append.mp h).elim tkI_noline tkP_noline
end
theorem tkA_ok {a : Act} (h : OkA a) : ∀ t ∈ tkA a, 32 ∉ tl t ∧ 10 ∉ tl t ∧ t.length ≤ 32 := fun t ht => by
  have nm : ∀ {n : Str}, nameOk n = true → 32 ∉ tl n ∧ 10 ∉ tl n ∧ n.length ≤ 32 := fun {n} hn => by
    obtain ⟨h1, _, h2⟩ := name_tl hn
    exact ⟨fun z => absurd (h1 _ z).1 (by decide), fun z => absurd (h1 _ z).1 (by decide), by omega⟩
  cases a with
  | enter n pl =>
    unfold tkA at ht
    rcases List.mem_cons.mp ht with rfl | ht
    · exact ⟨words_ok.1.1, words_ok.2.1, by decide +kernel⟩
    rcases List.mem_cons.mp ht with rfl | ht
    · exact nm h.1
    rw [List.mem_singleton.mp ht]
    exact ⟨ct_free pl, ct_noline pl, ct_short h.2⟩
  | run n d b =>
    unfold tkA at ht
    rcases List.mem_append.mp ht with ht | ht
    · rcases List.mem_cons.mp ht with rfl | ht
      · exact ⟨words_ok.1.2, words_ok.2.2.1, by decide +kernel⟩
      rw [List.mem_singleton.mp ht]
      exact nm h.1
    · exact ⟨(tkP_free ht).1, tkP_noline ht, (tkP_len h.2.1.ct).2 t ht⟩
theorem tkA_ne (a : Act) : tkA a ≠ [] := by
  cases a with
  | enter n pl => exact fun z => by cases z
  | run n d b => exact fun z => by cases z
theorem lnA_split {a : Act} (h : OkA a) : Txt.split (lnA a) " " = tkA a := split_jn (tkA_ne a) fun t ht => (tkA_ok h t ht).1
theorem tkA_few {a : Act} (h : OkA a) : (tkA a).length ≤ 402 := by
  cases a with
  | enter n pl => exact (by decide : 3 ≤ 402)
  | run n d b =>
    have := (tkP_len h.2.1.ct).1
    have := h.2.1.cn
    show ([("run" : Str), n] ++ tkP b).length ≤ _
    rw [List.length_append]
    show 2 + _ ≤ _
    omega
theorem lnA_len {a : Act} (h : OkA a) : (lnA a).length ≤ 14000 := by
  have h1 := jn_len (tkA a)
  have h2 := sum_le (fun t : Str => t.length + 1) 33 (l := tkA a) fun t ht => by have := (tkA_ok h t ht).2.2; omega
  have h3 := tkA_few h
  unfold lnA
  have : (tkA a).length * 33 ≤ 402 * 33 := Nat.mul_le_mul_right _ h3
  omega
theorem joinL_free {x : Nat} {S : List Nat} (hS : x ∉ S) : ∀ {ps : List (List Nat)}, (∀ p ∈ ps, x ∉ p) → x ∉ joinL S ps
  | [], _ => List.not_mem_nil
  | [p], h => h p List.mem_cons_self
  | p :: q :: r, h => by
    have ih := joinL_free hS (ps := q :: r) fun p hp => h p (List.mem_cons_of_mem _ hp)
    rw [joinL_cons (by simp)]
    intro z
    rcases List.mem_append.mp z with z | z
    · exact h p List.mem_cons_self z
    · exact (List.mem_append.mp z).elim hS ih
theorem lnA_noline {a : Act} (h : OkA a) : 10 ∉ tl (lnA a) := by
  unfold lnA
  rw [tl_jn]
  refine joinL_free (by decide) fun p hp => ?_
  obtain ⟨t, ht, rfl⟩ := List.mem_map.mp hp
  exact (tkA_ok h t ht).2.1
theorem tl_none : tl Str.empty = [] := rfl
theorem tl_prL (q : Int) : tl (prL q) = tl ("prime " : Str) ++ tl (ctS q) := by
  unfold prL
  rw [tl_append, tl_append, tl_none, List.nil_append]
theorem prL_noline (q : Int) : 10 ∉ tl (prL q) := by
  rw [tl_prL]
  exact fun z => (List.mem_append.mp z).elim (by decide +kernel) (ct_noline q)
theorem prL_inj {p q : Int} (hp : p.natAbs ≤ 10 ^ 30) (hq : q.natAbs ≤ 10 ^ 30) (h : prL p = prL q) : p = q := by
  have e : tl (ctS p) = tl (ctS q) := List.append_cancel_left ((tl_prL p).symm.trans ((congrArg tl h).trans (tl_prL q)))
  have e2 : ctS p = ctS q := ext_tl e
  have := (ct_back hp).symm.trans ((congrArg ctOf e2).trans (ct_back hq))
  exact Option.some.inj this
theorem prL_len {q : Int} (hq : q.natAbs ≤ 10 ^ 30) : (prL q).length ≤ 40 := by
  rw [len_tl, tl_prL, List.length_append]
  have := ct_short hq
  rw [len_tl] at this
  have h6 : (tl ("prime " : Str)).length = 6 := by decide +kernel
  omega
theorem tl_line : tl ("\n" : Str) = [10] := by decide +kernel
theorem sv_split {q : Int} {as : List Act} (h : ∀ a ∈ as, OkA a) : Txt.split (svT q as) "\n" = prL q :: as.map lnA := by
  refine split_join tl_line (by decide +kernel) (by simp) fun t ht => ?_
  rcases List.mem_cons.mp ht with rfl | ht
  · exact prL_noline q
  · obtain ⟨a, ha, rfl⟩ := List.mem_map.mp ht
    exact lnA_noline (h a ha)
theorem glue_len {y : Str} (hy : y.length ≤ 1) (ts : List Str) : (Txt.join y ts).length ≤ (ts.map fun t => t.length + 1).sum := by
  rw [join_eq, len_tl, tl_join]
  induction ts with
  | nil => exact Nat.zero_le _
  | cons t r ih =>
    rw [List.map_cons, List.map_cons, List.sum_cons, len_tl]
    cases r with
    | nil =>
      show (tl t).length ≤ _
      omega
    | cons u r =>
      rw [joinL_cons (by simp), List.length_append, List.length_append]
      have : (tl y).length ≤ 1 := by rw [← len_tl]; exact hy
      omega
theorem sv_len {q : Int} {as : List Act} (hq : q.natAbs ≤ 10 ^ 30) (h : ∀ a ∈ as, OkA a) : (svT q as).length ≤ 41 + as.length * 14001 := by
  have h1 := glue_len (y := "\n") (by decide +kernel) (prL q :: as.map lnA)
  have h2 := sum_le (fun t : Str => t.length + 1) 14001 (l := as.map lnA) fun t ht => by
    obtain ⟨a, ha, rfl⟩ := List.mem_map.mp ht
    have := lnA_len (h a ha)
    omega
  have h3 := prL_len hq
  rw [List.map_cons, List.sum_cons] at h1
  rw [List.length_map] at h2
  unfold svT
  omega
/-! ### comparing histories -/
theorem act_lay {a : Act} (h : OkA a) : PyData.canLay0 (actD a) = true ∧ (actD a).depth ≤ 40 := by
  cases a with
  | enter n pl =>
    refine ⟨?_, (by decide : max 0 (max 0 (max 0 0)) + 1 ≤ 40)⟩
    show (PyData.canLay0 (.str "enter") && (PyData.canLay0 (.str n) && (true && true))) = true
    rw [show PyData.canLay0 (.str "enter") = true from lay_low (by decide +kernel), lay_low (name_low h.1)]
    rfl
  | run n d b =>
    have f := isP_fits h.2.2 h.2.1.w
    have dp := f.dp
    have h3 := h.2.1.dp
    constructor
    · show (PyData.canLay0 (.str "run") && (PyData.canLay0 (.str n) && (PyData.canLay0 d && true))) = true
      rw [show PyData.canLay0 (.str "run") = true from lay_low (by decide +kernel), lay_low (name_low h.1), isP_lay h.2.2]
      rfl
    · show max 0 (max 0 (max d.depth 0)) + 1 ≤ 40
      omega
theorem acts_shaped {as : List Act} (h : ∀ a ∈ as, OkA a) : SeqAt.shaped (.list (as.map actD)) = true := by
  have go : PyData.canLayAll0 (as.map actD) = true ∧ PyData.depthAll (as.map actD) ≤ 40 := by
    induction as with
    | nil => exact ⟨rfl, Nat.zero_le _⟩
    | cons a r ih =>
      obtain ⟨e1, e2⟩ := ih fun b hb => h b (List.mem_cons_of_mem _ hb)
      obtain ⟨h1, h2⟩ := act_lay (h a List.mem_cons_self)
      constructor
      · show (PyData.canLay0 (actD a) && PyData.canLayAll0 (r.map actD)) = true
        rw [h1, e1]
        rfl
      · show max (actD a).depth (PyData.depthAll (r.map actD)) ≤ 40
        omega
  show (PyData.canLayAll0 (as.map actD) && decide (PyData.depthAll (as.map actD) + 1 ≤ 64)) = true
  rw [go.1, decide_eq_true (by omega)]
  rfl
theorem okA_ls {a : Act} (h : OkA a) : OkA (lsA a) := by
  cases a with
  | enter n pl => exact h
  | run n d b => exact ⟨h.1, h.2.1, .lst (isA_ld b)⟩
/-- whether two roads are equal: what is told of it -/
def EqSays (q q2 : Int) (as bs : List Act) (b : Bool) : Prop := (b = true → q = q2 ∧ as.length = bs.length) ∧ (q = q2 → as.map lsA = bs.map lsA → b = true)
theorem eq_says {as bs : List Act} (h1 : ∀ a ∈ as, OkA a) (q : Int) : EqSays q q as bs (PyData.eqv (.list ((as.map lsA).map actD)) (.list ((bs.map lsA).map actD))) := by
  constructor
  · intro h
    refine ⟨rfl, Decidable.byContradiction fun n => ?_⟩
    have z : PyData.eqvAll ((as.map lsA).map actD) ((bs.map lsA).map actD) = false := SeqAt.eqvAll_other_length (by simpa using n)
    have h : PyData.eqvAll ((as.map lsA).map actD) ((bs.map lsA).map actD) = true := by
      rw [PyData.eqv] at h
      exact h
    rw [z] at h
    cases h
  · rintro _ e
    rw [e]
    refine SeqAt.eqv_refl _ (SeqAt.canLay_of_shaped (acts_shaped fun a ha => ?_))
    rw [← e] at ha
    obtain ⟨c, hc, rfl⟩ := List.mem_map.mp ha
    exact okA_ls (h1 c hc)
/-! ### what the defs of texts promise -/
def sp_with_lists (K : PySem.W.Frag) (k : Nat) : Sp := fun vs H Q _ => ∃ (v : V) (d : PyData) (b : List Ins), vs = [v] ∧ Dp K H v d ∧ IsP d b ∧ dpP b < k ∧ k ≤ 3 ∧ cnP b ≤ 1000 ∧ ∀ v' H', Same H H' → Dp K (er H H') v' (.list (ldA b)) → Q v' H'
def sp_plain_action (K : PySem.W.Frag) : Sp := fun vs H Q _ => ∃ (v : V) (a : Act), vs = [v] ∧ ActV K H v a ∧ (∀ n d b, a = .run n d b → dpP b < 3 ∧ cnP b ≤ 1000) ∧ ∀ v' H', Same H H' → ActV K (er H H') v' (lsA a) → Q v' H'
def sp_road_eq (K : PySem.W.Frag) (C : Addr) : Sp := fun vs H Q _ => ∃ (r D T r2 D2 T2 : Addr) (q q2 : Int) (as bs as2 bs2 : List Act) (M M2 : Addr → Prop), vs = [.ref r, .ref r2] ∧ RoadAt K C M H r D T q as bs ∧ RoadAt K C M2 H r2 D2 T2 q2 as2 bs2 ∧ (∀ a ∈ as, OkA a) ∧ (∀ a ∈ as2, OkA a) ∧
  ∀ b H', Same H H' → EqSays q q2 as as2 b → Q (.bl b) H'
def sp_undo (K : PySem.W.Frag) (C : Addr) : Sp := fun vs H Q _ => ∃ (r D T p : Addr) (q : Int) (as bs : List Act) (a : Act) (M : Addr → Prop), vs = [.ref r] ∧ RoadAt K C M H r D T q (as ++ [a]) bs ∧ MOk M p H ∧ bs.length < 1000 ∧ OkA a ∧
  ∀ v H', Kst (Own2 D T) H H' → MOk M p H' → RoadAt K C M H' r D T q as (bs ++ [a]) → ActV K (erM M H') v a → Q v H'
def sp_redo (K : PySem.W.Frag) (C : Addr) : Sp := fun vs H Q _ => ∃ (r D T p : Addr) (q : Int) (as bs : List Act) (a : Act) (M : Addr → Prop), vs = [.ref r] ∧ RoadAt K C M H r D T q as (bs ++ [a]) ∧ MOk M p H ∧ as.length < 1000 ∧ OkA a ∧ Lgl (as ++ [a]) ∧
  ∀ v H', Kst (Own2 D T) H H' → MOk M p H' → RoadAt K C M H' r D T q (as ++ [a]) bs → ActV K (erM M H') v a → Q v H'
def sp_line_of (K : PySem.W.Frag) : Sp := fun vs H Q _ => ∃ (v : V) (a : Act), vs = [v] ∧ ActV K H v a ∧ OkA a ∧ ∀ H', Same H H' → Q (.str (lnA a)) H'
def sp_save (K : PySem.W.Frag) (C : Addr) : Sp := fun vs H Q _ => ∃ (r D T : Addr) (q : Int) (as bs : List Act) (M : Addr → Prop), vs = [.ref r] ∧ RoadAt K C M H r D T q as bs ∧ 0 < q ∧ q ≤ 97 ∧ (∀ a ∈ as, OkA a) ∧ as.length ≤ 60 ∧ ∀ H', Same H H' → Q (.str (svT q as)) H'
def primesL : List Int := [2, 3, 5, 7, 11, 13, 17, 19, 23, 29, 31, 37, 41, 43, 47, 53, 59, 61, 67, 71, 73, 79, 83, 89, 97]
def sp_new_road (C : Addr) : Sp := fun vs H Q _ => ∃ q : Int, vs = [.str (prL q)] ∧ q ∈ primesL ∧ ∀ r dx D T H', Same H H' → H r = none → H D = none → H T = none → D ≠ T → H' r = some (.ins C dx (roF q D T)) → H' D = some (.lst []) → H' T = some (.lst []) → Q (.ref r) H'
def sp_read_line (K : PySem.W.Frag) (C : Addr) : Sp := fun vs H Q _ => ∃ (r D T p : Addr) (q j : Int) (as bs : List Act) (a : Act) (M : Addr → Prop), vs = [.ref r, .int j, .str (lnA a)] ∧ RoadAt K C M H r D T q as bs ∧ MOk M p H ∧ ActOk as a ∧ OkA a ∧ as.length < 1000 ∧
  ∀ H', Kst (Own2 D T) H H' → MOk M p H' → RoadAt K C M H' r D T q (as ++ [lsA a]) [] → Q .non H'
/-- what may change, and two lists more -/
def MAdd (M : Addr → Prop) (D T : Addr) : Addr → Prop := fun b => M b ∨ b = D ∨ b = T
def sp_load (K : PySem.W.Frag) (C : Addr) : Sp := fun vs H Q _ => ∃ (p : Addr) (M : Addr → Prop) (q : Int) (as : List Act), vs = [.str (svT q as)] ∧ MOk M p H ∧ q ∈ primesL ∧ Taken as ∧ as.length ≤ 60 ∧
  ∀ r D T H', Same H H' → H r = none → H D = none → H T = none → MOk (MAdd M D T) p H' → RoadAt K C (MAdd M D T) H' r D T q (as.map lsA) [] → Q (.ref r) H'
theorem ld_at : ∀ {b : List Ins} {m : Nat} {i : Ins}, b[m]? = some i → (ldA b)[m]? = some (ldI i)
  | [], m, i, e => by simp at e
  | j :: r, 0, i, e => by
    rw [ldA]
    cases e
    rfl
  | j :: r, m + 1, i, e => by
    rw [ldA]
    exact ld_at (b := r) (m := m) e
theorem ld_len : ∀ b : List Ins, (ldA b).length = b.length
  | [] => by rw [ldA]; rfl
  | i :: r => by rw [ldA, List.length_cons, List.length_cons, ld_len r]
theorem acts_put {K : PySem.W.Frag} {G : Hp} {a : Act} : ∀ {as : List Act} {xs : List V}, ActVs K G xs (as ++ [a]) → ∃ ys v, xs = ys ++ [v] ∧ ActVs K G ys as ∧ ActV K G v a
  | [], _, .cons h t => by
    cases t
    exact ⟨[], _, rfl, .nil, h⟩
  | b :: r, _, .cons h t => by
    obtain ⟨ys, v, rfl, h1, h2⟩ := acts_put (as := r) t
    exact ⟨_ :: ys, v, rfl, .cons h h1, h2⟩
theorem MOk.act {M : Addr → Prop} {p : Addr} {H H' : Hp} {K : PySem.W.Frag} {v : V} {a : Act} (m : MOk M p H) (s : Same H H') (h : ActV K (er H H') v a) : ActV K (erM M H') v a := by
  have m2 := m.same s
  obtain ⟨kvs, hp⟩ := m2.dict
  cases a with
  | enter n pl =>
    obtain ⟨t, e, ht⟩ := h
    exact ⟨t, e, m2.tup (same_t (er_sub _ _) ht)⟩
  | run n d b =>
    obtain ⟨t, u, e, ht, hd, hb⟩ := h
    exact ⟨t, u, e, m2.tup (same_t (er_sub _ _) ht), m.data hp hd, hb⟩
theorem Lgl.front {as : List Act} {a : Act} (h : Lgl (as ++ [a])) : Lgl as := by
  have := h.take as.length
  rwa [List.take_append_of_le_length (Nat.le_refl _), List.take_length] at this
theorem OkA.few {a : Act} (h : OkA a) : ∀ n d b, a = .run n d b → dpP b < 3 ∧ cnP b ≤ 1000 := fun n d b e => by
  subst e
  exact ⟨h.2.1.dp, Nat.le_trans h.2.1.cn (by decide)⟩
/-- one list gives its last to the other -/
theorem RoadAt.shift {K : PySem.W.Frag} {C r D T dx : Addr} {M : Addr → Prop} {H H' : Hp} {q : Int} {xs ys : List V} {as bs cs ds : List Act} (R : RoadAt K C M H r D T q as bs) (hr : H r = some (.ins C dx (roF q D T))) (k : Kst (Own2 D T) H H')
    (hD : H' D = some (.lst xs)) (hT : H' T = some (.lst ys)) (hA : ActVs K (erM M H) xs cs) (hB : ActVs K (erM M H) ys ds) (f1 : cs.length ≤ 1000) (f2 : ds.length ≤ 1000) (lg : Lgl cs) : RoadAt K C M H' r D T q cs ds := by
  have own : ∀ b, Own2 D T b → M b := fun b z => z.elim (fun e => e ▸ R.mD) fun e => e ▸ R.mT
  have kM : Kst M H H' := k.sub own
  exact ⟨⟨dx, k _ _ (fun z => R.nr (own _ z)) hr⟩, ⟨xs, hD, hA.same kM.er⟩, ⟨ys, hT, hB.same kM.er⟩, R.mD, R.mT, R.nr, R.ne, f1, f2, lg⟩
theorem ln_enter (n : Str) (pl : Int) : Str.empty ++ "enter " ++ n ++ " " ++ ctS pl = lnA (.enter n pl) := by
  refine ext_tl ?_
  unfold lnA tkA
  rw [tl_jn, tl_append, tl_append, tl_append, tl_append, tl_none, tl_blank]
  rw [show tl ("enter " : Str) = tl ("enter" : Str) ++ [32] by decide +kernel]
  simp only [List.map_cons, List.map_nil, List.nil_append, List.append_assoc]
  rfl
theorem ln_run {n : Str} {d : PyData} {b : List Ins} (h : tkP b ≠ []) : jn [("run" : Str), n, txP b] = lnA (.run n d b) := by
  have e : [("run" : Str), n, txP b] = [("run" : Str), n] ++ [txP b] := rfl
  unfold lnA tkA
  rw [e, jn_two (by simp) (by simp), jn_two (by simp) h, jn_one]
  rfl
theorem tkP_none {b : List Ins} : tkP b = [] ↔ b = [] := by
  cases b with
  | nil => exact ⟨fun _ => rfl, fun _ => tkP_nil⟩
  | cons i r =>
    rw [tkP_cons]
    exact ⟨fun z => absurd (List.append_eq_nil_iff.mp z).1 (tkI_ne i), fun z => by cases z⟩
theorem OkA.name {n : Str} {d : PyData} {b : List Ins} (h : OkA (.run n d b)) : n.length ≤ 8 := (name_tl h.1).2.2
theorem enter_lens (n : Str) (pl : Int) : (Str.empty ++ "enter " : Str).length = 6 ∧ (Str.empty ++ "enter " ++ n).length = 6 + n.length ∧ (Str.empty ++ "enter " ++ n ++ " ").length = 7 + n.length ∧ (Str.empty ++ "enter " ++ n ++ " " ++ ctS pl).length = 7 + n.length + (ctS pl).length := by
  have w1 : (" " : Str).length = 1 := by decide +kernel
  have l1 : (Str.empty ++ "enter " : Str).length = 6 := by decide +kernel
  have l2 : (Str.empty ++ "enter " ++ n).length = 6 + n.length := by rw [len_tl, tl_append, List.length_append, ← len_tl, ← len_tl, l1]
  have l3 : (Str.empty ++ "enter " ++ n ++ " ").length = 7 + n.length := by
    rw [len_tl, tl_append, List.length_append, ← len_tl, ← len_tl, l2]
    omega
  exact ⟨l1, l2, l3, by rw [len_tl, tl_append, List.length_append, ← len_tl, ← len_tl, l3]⟩
/-- a comprehension over what an expression gives that is worked out first -/
theorem lcWx {tv : TI} {g : TG} {te : TE} {σ : L2.St} {H : Hp} {vs : List Nat} {Q : VK} (W : It → Hp → Prop) (hv : ∀ S : It → Hp → Prop, (∀ J H0, W J H0 → S J H0) → tv σ H S) (rest : ∀ J H0, W J H0 → tLc (fun _ H' S => S J H') g tYes te vs σ H0 Q) : tLc tv g tYes te vs σ H Q :=
  hv _ fun J H0 h => rest J H0 h
/-- a tuple of numbers that stands in the module -/
def TupG (K : PySem.W.Frag) (a : Addr) (ns : List Int) : Prop := ∃ (o : Obj) (its : Array Value) (n : Nat), K.lookup a = some o ∧ o.cls = .type "tuple" ∧ o.data = .seq its n ∧ its.size ≤ sizeLine ∧ Vals (ns.map V.int) its.toList
theorem TupG.sq {K : PySem.W.Frag} {a : Addr} {ns : List Int} (h : TupG K a ns) (H : Hp) : SqT K H a (ns.map V.int) := .inr h
theorem primes_rng : ∀ q ∈ primesL, 2 ≤ q ∧ q ≤ 97 := by decide
theorem cut2 (xs : List V) : cutV xs (some 2) none = xs.drop 2 := by
  unfold cutV
  have hi : HT.sIx xs.length xs.length none = xs.length := rfl
  have lo : HT.sIx xs.length 0 (some 2) = min 2 xs.length := HT.sIx_nat _ _ 2
  rw [hi, lo]
  by_cases h : 2 ≤ xs.length
  · rw [Nat.min_eq_left h]
    exact List.take_of_length_le (by rw [List.length_drop]; omega)
  · rw [Nat.min_eq_right (by omega), List.drop_length, List.drop_of_length_le (by omega), List.take_nil]
theorem toks_no {b : List Ins} : PyData.eqv (.list ((tkP b).map PyData.str)) (.list [PyData.str ""]) = false := by
  cases e : tkP b with
  | nil => rfl
  | cons t r =>
    have ne := (tkP_free (b := b) (t := t) (by rw [e]; exact List.mem_cons_self)).2
    have no : (t == ("" : Str)) = false := by
      rw [beq_eq_false_iff_ne]
      intro z
      rw [z] at ne
      exact ne (by decide +kernel)
    show (PyData.eqv (.str t) (.str "") && _) = false
    rw [PyData.eqv, no]
    rfl
theorem toks_shaped (b : List Ins) : SeqAt.shaped (.list ((tkP b).map PyData.str)) = true := strs_shaped fun z hz => low_tkP hz
theorem none_shaped : SeqAt.shaped (.list [PyData.str ""]) = true := by decide +kernel
theorem at_next (x y : V) (r : List V) : atI (x :: y :: r) 1 = some y := by
  unfold atI ixN
  rw [if_pos (show (0 : Int) ≤ 1 by decide), if_pos (show (1 : Int) < ((x :: y :: r).length : Int) by rw [List.length_cons, List.length_cons]; omega)]
  rfl
theorem ActOk.ls {as : List Act} {a : Act} (h : ActOk as a) : ActOk (as.map lsA) a := by
  cases a with
  | enter n pl => exact ⟨h.1, by rw [names_ls]; exact h.2.1, h.2.2⟩
  | run n d b => exact ⟨by rw [names_ls]; exact h.1, h.2⟩
theorem MAdd.mok {M : Addr → Prop} {p D T : Addr} {H H' : Hp} {xs ys : List V} (m : MOk M p H) (s : Same H H') (hD : H' D = some (.lst xs)) (hT : H' T = some (.lst ys)) : MOk (MAdd M D T) p H' := by
  have m2 := m.same s
  refine ⟨.inl m2.pen, fun b h => ?_, m2.dict⟩
  rcases h with h | h | h
  · exact m2.lists b h
  · exact .inr ⟨xs, by rw [h]; exact hD⟩
  · exact .inr ⟨ys, by rw [h]; exact hT⟩
theorem MAdd.made {K : PySem.W.Frag} {C p r D T dx : Addr} {M : Addr → Prop} {H H' : Hp} {q : Int} (m : MOk M p H) (nr : H r = none) (ne : D ≠ T) (e : H' r = some (.ins C dx (roF q D T))) (hD : H' D = some (.lst [])) (hT : H' T = some (.lst [])) : RoadAt K C (MAdd M D T) H' r D T q [] [] := by
  refine ⟨⟨dx, e⟩, ⟨[], hD, .nil⟩, ⟨[], hT, .nil⟩, .inr (.inl rfl), .inr (.inr rfl), fun z => ?_, ne, Nat.zero_le _, Nat.zero_le _, Lgl.nil⟩
  rcases z with z | z | z
  · exact m.there z nr
  · rw [z, hD] at e
    cases e
  · rw [z, hT] at e
    cases e
/-- what stands in a heap stays while lists change that are not there -/
theorem Same.own {D T : Addr} {H H1 H2 : Hp} (s : Same H H1) (k : Kst (Own2 D T) H1 H2) (nD : H D = none) (nT : H T = none) : Same H H2 := fun b o e =>
  k b o (fun z => z.elim (fun y => by rw [y, nD] at e; cases e) fun y => by rw [y, nT] at e; cases e) (s b o e)
end DR
/-! ### enumerate(xs, start=1) in a for -/
namespace DR
open PySem PySem.Spec PyProof.Rows L2
/-- the list at a as it stands at each turn, its items in new pairs behind their numbers from 1 on -/
def ItS (K : PySem.W.Frag) (a : Addr) : It where
  go := fun j H => ∃ (us : List V) (y : V), SqL K H a us ∧ us[j]? = some y
  yld := fun j H v H' => ∃ t y, v = .ref t ∧ H t = none ∧ H' = upd H t (.tup [.int ((j + 1 : Nat) : Int), y]) ∧ ∀ us, SqL K H a us → us[j]? = some y
  stop := fun j H => ∃ us : List V, SqL K H a us ∧ us.length ≤ j
theorem walk_enumS {K : PySem.W.Frag} {a : Addr} {us : List V} : Walk (ItS K a) us.length (fun H => SqL K H a us) (YPair (fun j => some (.int ((j + 1 : Nat) : Int))) (fun j => us[j]?)) where
  goes := fun j _ lt q => ⟨us, us[j], q, List.getElem?_eq_getElem lt⟩
  stops := fun _ q => ⟨us, q, Nat.le_refl _⟩
  yields := fun j H v H' _ q ⟨t, y, e1, e2, e3, e4⟩ => ⟨t, _, y, e1, e2, e3, rfl, e4 us q⟩
def EnS (en it a : Addr) (j : Nat) (h : Heap) : Prop := (∃ old, IsEnum h en it (((j + 1 : Nat)) : Int) old) ∧ h.IsListIter it a j ∧ en ≠ it ∧ a ≠ it ∧ a ≠ en
theorem turn_enumS {P : Program} {w : World} {K : PySem.W.Frag} {elts : List Expr} {kk : Nat} {tpos : Pos} (a en it : Addr) : Turn P w K (.Tuple elts kk tpos) (ItS K a) [en, it] en (EnS en it a) where
  mem := List.mem_cons_self
  obj := by
    rintro j h ⟨⟨old, e1⟩, ⟨o, e2, _, d2⟩, _⟩ b hb
    rcases List.mem_cons.mp hb with rfl | hb
    · exact ⟨_, e1, fun v z => nomatch z⟩
    · obtain rfl := List.mem_singleton.mp hb
      exact ⟨o, e2, fun v z => by rw [d2] at z; cases z⟩
  keep := by
    rintro j h h' ⟨⟨old, e1⟩, e2, n⟩ k
    exact ⟨⟨old, k en List.mem_cons_self _ e1⟩, e2.at fun o z => k it (List.mem_cons_of_mem _ List.mem_cons_self) o z, n⟩
  item := by
    rintro X rfl rfl rfl calm j pins s σ H E I fp ⟨⟨old, e1⟩, e2, ne, na, na2⟩ ⟨us, y, hq, hy⟩
    obtain ⟨vals, rv, lst, _⟩ := I.list hq
    obtain ⟨u, hu, ru⟩ := rv.get hy
    have lt : j < vals.toArray.size := by
      have := (List.getElem?_eq_some_iff.mp hu).1
      simpa using this
    have D := Draws.list (prog := X.prog) (w := X.w) (A := X.A.in1) (I.ok.hd calm) it a na vals.toArray
    refine wpAny_pyNext_enum_itemC D e1 ⟨e2, lst.isList⟩ lt ne (by simp [ne, na2.symm]) fun z h' tk hz ho hst hT hsz keep => ?_
    have ez : z = u := by
      have hz' : vals[j]? = some z := by simpa using hz
      exact Option.some.inj (hz'.symm.trans hu)
    subst ez
    refine ⟨_, rfl, wpAny_letOwnedTupleGo_enum (s := { s with heap := h', toks := tk + 1 }) ho fun h2 e3 same => ?_⟩
    have old_ : ∀ {b : Addr}, b ∈ [en, it] → b < s.heap.objs.size := fun {b} hb => by
      rcases List.mem_cons.mp hb with rfl | hb
      · exact Heap.lt_size e1
      · obtain rfl := List.mem_singleton.mp hb
        obtain ⟨_, q, _⟩ := e2
        exact Heap.lt_size q
    have top : h2.get? s.heap.objs.size = some { cls := .type "tuple", data := .seq #[.int (((j + 1 : Nat)) : Int) tk, z] } := (same.2 _ (Nat.ne_of_gt (old_ List.mem_cons_self))).trans hT
    have ok : ObjOk X.prog X.w (upd H s.heap.objs.size (.tup [.int (((j + 1 : Nat)) : Int), y])) h2 s.heap.objs.size (.tup [.int (((j + 1 : Nat)) : Int), y]) :=
      ⟨sl_of (show 2 ≤ 1000000 by decide), [.int (((j + 1 : Nat)) : Int) tk, z], .cons ⟨_, rfl⟩ (.cons ru .nil), ⟨_, top, rfl, _, rfl⟩⟩
    have J : Inv X pins σ (upd H s.heap.objs.size (.tup [.int (((j + 1 : Nat)) : Int), y])) { s with heap := h2, toks := tk + 1 } := by
      refine I.turnedNew (ch := [en, it]) (fun b o hb q => ?_) fp (Nat.le_refl _) ok
      have b1 : b ≠ en := fun z => hb (by rw [z]; exact List.mem_cons_self)
      have b2 : b ≠ it := fun z => hb (by rw [z]; exact List.mem_cons_of_mem _ List.mem_cons_self)
      exact (same.2 b b1).trans (keep b o b1 b2 q)
    refine ⟨.ref s.heap.objs.size, _, J, rfl, ⟨_, y, rfl, I.hok.fresh (Nat.le_refl _), rfl, fun ws hw => by rw [I.list_inj hw hq]; exact hy⟩, ⟨⟨z, ?_⟩, hst.1.at fun o q => (same.2 it ne.symm).trans q, ne, na, na2⟩, fun b hb => ?_⟩
    · have : ((j + 1 + 1 : Nat) : Int) = ((j + 1 : Nat) : Int) + 1 := rfl
      rw [this]
      exact e3
    · rw [upd_ne (Nat.ne_of_lt (old_ hb))]
      exact (fp b hb).1
  done := by
    rintro X rfl rfl rfl calm j pins s σ H E I fp ⟨⟨old, e1⟩, e2, ne, na, na2⟩ ⟨us, hq, le⟩
    obtain ⟨vals, rv, lst, _⟩ := I.list hq
    have ll := rv.length
    obtain ⟨f0, f1, f2, f3, f4, f5⟩ := fp it (List.mem_cons_of_mem _ List.mem_cons_self)
    have over : vals.toArray[j]? = none := by
      simp
      omega
    have D : Draws X.prog X.w X.A.in1 it [it, a] j (fun _ _ => True) (fun i h => i = j ∧ h.IsListIter it a j ∧ h.IsList a vals.toArray) :=
      { live := fun _ _ z => z.2.1.elim fun o y => ⟨o, y.1⟩
        frame := fun _ _ _ z k => ⟨z.1, z.2.1.at fun o y => k it List.mem_cons_self o y, z.2.2.at fun o y => k a (List.mem_cons_of_mem _ List.mem_cons_self) o y⟩
        item := fun i _ _ _ lt z => absurd z.1 (Nat.ne_of_lt lt)
        done := fun _ _ _ z k => wpAny_nextOf_list_end (I.ok.hd calm) z.2.1 z.2.2 over k }
    exact wpAny_pyNext_enum_endD D e1 ⟨rfl, e2, lst.isList⟩ fun h' eb => ⟨rfl, I.turned (t' := s.toks) (fun b o hb q => eb b o hb q) f0 f1 f3 f4 f5⟩
  self := by
    rintro A j s Q E ⟨⟨old, e1⟩, _⟩ q
    exact wpAny_pyIter_enum e1 q
/-- enumerate(xs, start=1) -/
def iEnumS (K : PySem.W.Frag) (ta : TA) (ts : TE) : TI := fun σ H R => ta σ H fun vs H1 => tCons ts tNil σ H1 fun zs H2 => ∃ a us, vs = [.ref a] ∧ zs = [.int 1] ∧ SqL K H2 a us ∧ R (ItS K a) H2
theorem pi_enumS {X : Cx} {e e1 : Expr} {ta : TA} {ts : TE} {p pos tpos kpos : Pos} {elts : List Expr} {kk : Nat} (hg : Gl X "enumerate") (hm : X.mg "enumerate" = none) (ha : PA X [e] ta) (hs : PE X e1 ts) (st : starEach [e] X.env = (false, eval e X.env) :: starEach [] X.env := by rfl)
    (hk : (backToKw pos (keywordEach [⟨some "start", e1, kpos⟩] X.env)).all (·.1.isSome) = true := by rfl) (hp : ((backTo pos (starEach [e] X.env)).any (·.1) || (backToKw pos (keywordEach [⟨some "start", e1, kpos⟩] X.env)).any (·.1.isNone)) = false := by rfl)
    (hn : (backToKw pos (keywordEach [⟨some "start", e1, kpos⟩] X.env)).filterMap (·.1) = [Str.ofString "start"] := by rfl) :
    PI X (.Tuple elts kk tpos) (.Call (.Name "enumerate" p) [e] [⟨some "start", e1, kpos⟩] pos) (iEnumS X.K ta ts) := by
  refine ⟨fun pins s σ H R I h => ?_⟩
  refine wpAny_Call_Name_kw (ld_blt I hg hm boot_enumerate ?_)
  have keeper : ∀ g : Heap, True → ∃ k, (k = Keeper.frame ∨ k = Keeper.machine ∨ k = Keeper.boundFrame) ∧ PySem.W.Looks (model X.prog X.w) g (keeperOf (.type "enumerate")) k := fun g _ => ⟨.machine, .inr (.inl rfl), PySem.W.Looks.of_pure rfl⟩
  refine PySem.W.callWith_of hp keeper (evalArgs_kw2 hk (thn (ha.run pos pins s σ H _ I h) fun us s1 ⟨vs, H1, I1, r1, q1⟩ => ?_) st)
  refine thn ((pk_cons hs pk_nil).run pos pins s1 σ H1 (fun zs H2 => ∃ a us, vs = [.ref a] ∧ zs = [.int 1] ∧ SqL X.K H2 a us ∧ R (ItS X.K a) H2) I1 q1) fun ws s2 ⟨zs, H2, I2, r2, q2⟩ => ?_
  refine ⟨trivial, ?_⟩
  rw [hn]
  obtain ⟨a, us2, rfl, rfl, hq, q⟩ := q2
  obtain ⟨u, rfl, ru⟩ := vals1 r1
  obtain ⟨w1, rfl, rw1⟩ := vals1 r2
  obtain rfl : u = Value.ref a := ru
  obtain ⟨tok, rfl⟩ := rw1
  obtain ⟨its, rv, lst, _⟩ := I2.list hq
  refine enum_begins_start (k := 1) (begins_list a its.toArray) lst.isList (by decide) (by decide) fun h' e1 e2 sz keep => ?_
  refine wpAny_pyIter_enum e1 ?_
  have I3 : Inv X pins σ H2 { s2 with heap := h' } := I2.kept (t' := s2.toks) keep
  have hlt : a < s2.heap.objs.size := by
    obtain ⟨o, z, _⟩ := lst.isList
    exact Heap.lt_size z
  refine ⟨s2.heap.objs.size + 1, [s2.heap.objs.size + 1, s2.heap.objs.size], _, _, H2, rfl, I3, turn_enumS a (s2.heap.objs.size + 1) s2.heap.objs.size, ⟨⟨.none, e1⟩, ⟨_, e2, rfl, rfl⟩, Nat.succ_ne_self _, Nat.ne_of_lt hlt, Nat.ne_of_lt (Nat.lt_succ_of_lt hlt)⟩, fun b hb => ?_, q⟩
  have ge : s2.heap.objs.size ≤ b := by
    rcases List.mem_cons.mp hb with rfl | hb
    · omega
    · obtain rfl := List.mem_singleton.mp hb
      omega
  exact I2.fpOk ge (I2.hok.fresh ge)
end DR
/-! ### what a road shows, as a text -/
namespace DR
open PySem PySem.Spec PyProof.Rows L2
/-! ### actions that grow in a list beside what may change -/
structure ActsM (P : List Ins → Prop) (K : PySem.W.Frag) (M : Addr → Prop) (p c : Addr) (n : Nat) (H : Hp) (D T : Addr) (as : List Act) (ks : List Str) : Prop where
  pen : PenAt H p c n
  ls : ∃ xs, H D = some (.lst xs) ∧ ActVs K (erM M H) xs as
  kn : H T = some (.lst (ks.map V.str))
  ne : D ≠ T
  np : D ≠ p ∧ T ≠ p
  nc : D ≠ c ∧ T ≠ c
  tk : Taken as
  nr : ∀ n d b, Act.run n d b ∈ as → P b
  mok : MOk M p H
  mD : M D
  mT : M T
theorem MOk.kpm {M : Addr → Prop} {p : Addr} {H H' : Hp} (m : MOk M p H) (k : Kp p H H') (d : ∃ kvs, H' p = some (.dK kvs)) : MOk M p H' := by
  refine ⟨m.pen, fun b h => ?_, d⟩
  by_cases z : b = p
  · exact .inl z
  · exact .inr ((m.lists b h).elim (fun e => absurd e z) fun q => q.elim fun xs e => ⟨xs, k _ _ z e⟩)
theorem MOk.put {M : Addr → Prop} {p D : Addr} {H : Hp} {xs ys : List V} (m : MOk M p H) (hD : H D = some (.lst xs)) : MOk M p (upd H D (.lst ys)) := by
  obtain ⟨kvs, hp⟩ := m.dict
  have n1 : D ≠ p := fun z => by
    rw [z, hp] at hD
    cases hD
  refine ⟨m.pen, fun b h => ?_, kvs, by rw [upd_ne n1.symm]; exact hp⟩
  by_cases z : b = D
  · exact .inr ⟨ys, by rw [z]; exact upd_same⟩
  · exact (m.lists b h).imp id fun q => q.elim fun us e => ⟨us, by rw [upd_ne z]; exact e⟩
section
variable {P : List Ins → Prop} {K : PySem.W.Frag} {M : Addr → Prop} {p c D T : Addr} {n m : Nat} {H H' : Hp} {as : List Act} {ks : List Str}
theorem ActsM.kp (R : ActsM P K M p c n H D T as ks) (k : Kp p H H') (pen : PenAt H' p c m) : ActsM P K M p c m H' D T as ks := by
  obtain ⟨xs, hD, hA⟩ := R.ls
  exact ⟨pen, ⟨xs, k _ _ R.np.1 hD, hA.same (k.ks R.mok.pen).er⟩, k _ _ R.np.2 R.kn, R.ne, R.np, R.nc, R.tk, R.nr, R.mok.kpm k pen.dk, R.mD, R.mT⟩
theorem ActsM.same (R : ActsM P K M p c n H D T as ks) (s : Same H H') : ActsM P K M p c n H' D T as ks := R.kp (Same.kp s) (R.pen.same s)
theorem ActsM.mono (R : ActsM P K M p c n H D T as ks) (h : n ≤ m) : ActsM P K M p c m H D T as ks := ⟨R.pen.mono h, R.ls, R.kn, R.ne, R.np, R.nc, R.tk, R.nr, R.mok, R.mD, R.mT⟩
theorem ActsM.add (R : ActsM P K M p c n H D T as ks) {xs : List V} {v : V} {a : Act} (hD : H D = some (.lst xs)) (hv : ActV K (erM M H) v a) (ok : ActOk as a) (nr : ∀ n d b, a = .run n d b → P b) : ActsM P K M p c n (upd H D (.lst (xs ++ [v]))) D T (as ++ [a]) ks := by
  obtain ⟨ys, hD2, hA⟩ := R.ls
  rw [hD] at hD2
  cases hD2
  have k : Kst M H (upd H D (.lst (xs ++ [v]))) := (Kst.refl _ _).upd R.mD
  refine ⟨R.pen.upd R.np.1 R.nc.1, ⟨_, upd_same, (hA.same k.er).app (.cons (hv.same k.er) .nil)⟩, by rw [upd_ne R.ne.symm]; exact R.kn, R.ne, R.np, R.nc, R.tk.snoc ok, fun n d b h => ?_, R.mok.put hD, R.mD, R.mT⟩
  exact (List.mem_append.mp h).elim (R.nr n d b) fun h => nr n d b (List.mem_singleton.mp h).symm
theorem ActsM.name (R : ActsM P K M p c n H D T as ks) (z : Str) : ActsM P K M p c n (upd H T (.lst (ks.map V.str ++ [.str z]))) D T as (ks ++ [z]) := by
  obtain ⟨ys, hD, hA⟩ := R.ls
  have k : Kst M H (upd H T (.lst (ks.map V.str ++ [.str z]))) := (Kst.refl _ _).upd R.mT
  exact ⟨R.pen.upd R.np.2 R.nc.2, ⟨ys, by rw [upd_ne R.ne]; exact hD, hA.same k.er⟩, by rw [upd_same, List.map_append]; rfl, R.ne, R.np, R.nc, R.tk, R.nr, R.mok.put R.kn, R.mD, R.mT⟩
theorem ActsM.fresh (R : ActsM P K M p c n H D T as ks) (k : Kp p H H') (pen : PenAt H' p c m) {v : V} {b : List Ins} (h : PV K (er H H') v b) : ∃ d, Dp K (erM M H') v d ∧ IsP d b := by
  obtain ⟨d, hd, hp⟩ := h
  obtain ⟨kvs, e⟩ := pen.dk
  exact ⟨d, R.mok.data e hd, hp⟩
end
/-- of two lists the one without doubles is no longer -/
theorem nodup_le {α : Type} [DecidableEq α] : ∀ (A Z : List α), A.Nodup → (∀ a ∈ A, a ∈ Z) → A.length ≤ Z.length
  | [], _, _, _ => Nat.zero_le _
  | a :: A, Z, nd, h => by
    have ha := h a List.mem_cons_self
    obtain ⟨h1, h2⟩ := List.nodup_cons.mp nd
    have ih := nodup_le A (Z.erase a) h2 fun b hb => by
      have hbZ := h b (List.mem_cons_of_mem _ hb)
      have ne : b ≠ a := fun z => h1 (by rw [← z]; exact hb)
      exact (List.mem_erase_of_ne ne).mpr hbZ
    rw [List.length_erase_of_mem ha] at ih
    have := List.length_pos_of_mem ha
    rw [List.length_cons]
    omega
end DR
/-! ### a road, and another one loaded from its text (k98) -/
namespace DR
open PySem PySem.Spec PyProof.Rows L2 TL
theorem RoadAt.wide {K : PySem.W.Frag} {C r D T D2 T2 : Addr} {M : Addr → Prop} {H H' : Hp} {q : Int} {as bs : List Act} (R : RoadAt K C M H r D T q as bs) (s : Same H H') (nD : H D2 = none) (nT : H T2 = none) : RoadAt K C (MAdd M D2 T2) H' r D T q as bs := by
  obtain ⟨dx, e⟩ := R.ob
  obtain ⟨xs, e1, a1⟩ := R.dn
  obtain ⟨ys, e2, a2⟩ := R.tb
  have up : Same (erM M H) (erM (MAdd M D2 T2) H') := fun b o z => by
    obtain ⟨z1, z2⟩ := erM_at z
    refine erM_of (fun y => ?_) (s _ _ z2)
    rcases y with y | y | y
    · exact z1 y
    · rw [y, nD] at z2
      cases z2
    · rw [y, nT] at z2
      cases z2
  refine ⟨⟨dx, s _ _ e⟩, ⟨xs, s _ _ e1, a1.same up⟩, ⟨ys, s _ _ e2, a2.same up⟩, .inl R.mD, .inl R.mT, fun y => ?_, R.ne, R.fewA, R.fewB, R.lg⟩
  rcases y with y | y | y
  · exact R.nr y
  · rw [y, nD] at e
    cases e
  · rw [y, nT] at e
    cases e
/-- a law's pen, its names, and its road -/
structure L98 (K : PySem.W.Frag) (C p c : Addr) (n : Nat) (M : Addr → Prop) (H : Hp) (N : Addr) (ns : List Str) (r D T : Addr) (q : Int) (as bs : List Act) : Prop where
  pen : PenAt H p c n
  road : RoadAt K C M H r D T q as bs
  mok : MOk M p H
  nm : erM M H N = some (.lst (ns.map V.str))
  cell : ¬ M c
section
variable {K : PySem.W.Frag} {C p c N r D T r2 D2 T2 : Addr} {n m : Nat} {M : Addr → Prop} {H H' : Hp} {ns : List Str} {q : Int} {as bs as' bs' cs es cs' es' : List Act}
theorem L98.kp (L : L98 K C p c n M H N ns r D T q as bs) (k : Kp p H H') (pen : PenAt H' p c m) : L98 K C p c m M H' N ns r D T q as bs :=
  ⟨pen, L.road.kp L.mok k, L.mok.kpm k pen.dk, (k.ks L.mok.pen).er _ _ L.nm, L.cell⟩
theorem L98.same (L : L98 K C p c n M H N ns r D T q as bs) (s : Same H H') : L98 K C p c n M H' N ns r D T q as bs := L.kp (Same.kp s) (L.pen.same s)
theorem L98.mono (L : L98 K C p c n M H N ns r D T q as bs) (h : n ≤ m) : L98 K C p c m M H N ns r D T q as bs := ⟨L.pen.mono h, L.road, L.mok, L.nm, L.cell⟩
theorem pen_own (pen : PenAt H p c n) (mok : MOk M p H) (cell : ¬ M c) (k : Kst (Own2 D T) H H') (R : RoadAt K C M H r D T q as bs) : PenAt H' p c n := by
  obtain ⟨zs, x, y, hp, hc, h0, h9⟩ := pen.ex
  obtain ⟨_, hD, _⟩ := R.dn
  obtain ⟨_, hT, _⟩ := R.tb
  have n1 := ne_of hp hD (by intro z; cases z)
  have n2 := ne_of hp hT (by intro z; cases z)
  exact ⟨zs, x, y, k _ _ (fun z => z.elim n1 n2) hp, k _ _ (fun z => cell (z.elim (fun e => e ▸ R.mD) fun e => e ▸ R.mT)) hc, h0, h9⟩
theorem own_sub (R : RoadAt K C M H r D T q as bs) : ∀ b, Own2 D T b → M b := fun b z => z.elim (fun e => e ▸ R.mD) fun e => e ▸ R.mT
theorem L98.own (L : L98 K C p c n M H N ns r D T q as bs) (k : Kst (Own2 D T) H H') (mok : MOk M p H') (R : RoadAt K C M H' r D T q as' bs') : L98 K C p c n M H' N ns r D T q as' bs' :=
  ⟨pen_own L.pen L.mok L.cell k L.road, R, mok, (k.sub (own_sub L.road)).er _ _ L.nm, L.cell⟩
/-- .. and a second road -/
structure L98b (K : PySem.W.Frag) (C p c : Addr) (n : Nat) (M : Addr → Prop) (H : Hp) (N : Addr) (ns : List Str) (r D T : Addr) (q : Int) (as bs : List Act) (r2 D2 T2 : Addr) (cs es : List Act) : Prop where
  l : L98 K C p c n M H N ns r D T q as bs
  two : RoadAt K C M H r2 D2 T2 q cs es
  ap : (D ≠ D2 ∧ D ≠ T2) ∧ T ≠ D2 ∧ T ≠ T2
theorem L98.load (L : L98 K C p c n M H N ns r D T q as bs) (s : Same H H') (nD : H D2 = none) (nT : H T2 = none) (mok : MOk (MAdd M D2 T2) p H') (R2 : RoadAt K C (MAdd M D2 T2) H' r2 D2 T2 q cs es) : L98b K C p c n (MAdd M D2 T2) H' N ns r D T q as bs r2 D2 T2 cs es := by
  obtain ⟨zs, x, y, hp, hc, _⟩ := L.pen.ex
  obtain ⟨_, hD, _⟩ := L.road.dn
  obtain ⟨_, hT, _⟩ := L.road.tb
  have gone : ∀ {b : Addr} {o : HO}, H b = some o → b ≠ D2 ∧ b ≠ T2 := fun e => ⟨fun z => (by rw [z, nD] at e; cases e), fun z => (by rw [z, nT] at e; cases e)⟩
  obtain ⟨n1, n2⟩ := erM_at L.nm
  refine ⟨⟨L.pen.same s, L.road.wide s nD nT, mok, erM_of (fun z => ?_) (s _ _ n2), fun z => ?_⟩, R2, gone hD, gone hT⟩
  · rcases z with z | z | z
    · exact n1 z
    · exact (gone n2).1 z
    · exact (gone n2).2 z
  · rcases z with z | z | z
    · exact L.cell z
    · exact (gone hc).1 z
    · exact (gone hc).2 z
theorem L98b.kp (L : L98b K C p c n M H N ns r D T q as bs r2 D2 T2 cs es) (k : Kp p H H') (pen : PenAt H' p c m) : L98b K C p c m M H' N ns r D T q as bs r2 D2 T2 cs es := ⟨L.l.kp k pen, L.two.kp L.l.mok k, L.ap⟩
theorem L98b.same (L : L98b K C p c n M H N ns r D T q as bs r2 D2 T2 cs es) (s : Same H H') : L98b K C p c n M H' N ns r D T q as bs r2 D2 T2 cs es := L.kp (Same.kp s) (L.l.pen.same s)
theorem L98b.mono (L : L98b K C p c n M H N ns r D T q as bs r2 D2 T2 cs es) (h : n ≤ m) : L98b K C p c m M H N ns r D T q as bs r2 D2 T2 cs es := ⟨L.l.mono h, L.two, L.ap⟩
theorem keep_eq {E G : Addr} (k : Kst (Own2 E G) H H') {b : Addr} {o : HO} (e : H b = some o) (h : b ≠ E ∧ b ≠ G) : H' b = H b := (k b o (fun z => z.elim h.1 h.2) e).trans e.symm
theorem L98b.other (L : L98b K C p c n M H N ns r D T q as bs r2 D2 T2 cs es) (k : Kst (Own2 D2 T2) H H') (mok : MOk M p H') (R : RoadAt K C M H' r2 D2 T2 q cs' es') : L98b K C p c n M H' N ns r D T q as bs r2 D2 T2 cs' es' := by
  obtain ⟨_, hD, _⟩ := L.l.road.dn
  obtain ⟨_, hT, _⟩ := L.l.road.tb
  have kM := k.sub (own_sub L.two)
  exact ⟨⟨pen_own L.l.pen L.l.mok L.l.cell k L.two, L.l.road.keep kM (keep_eq k hD L.ap.1) (keep_eq k hT L.ap.2), mok, kM.er _ _ L.l.nm, L.l.cell⟩, R, L.ap⟩
end
/-! numbers of a history -/
theorem primes_in : ∀ q ∈ primes, q ∈ primesL := by decide
/-! names that are not taken -/
def far8 (c : Nat) : Str := Txt.mul ⟨#[c]⟩ 8
/-- [f(sign) for sign in text if p(sign)] -/
theorem lcSignM {tv : TE} {σ : L2.St} {H : Hp} {vs : List Nat} {i : Nat} {tt : TT} {te : TE} {Q : VK} {z : Str} (g : Nat → Bool) (f : Nat → Str) (hz : z.length ≤ 100000) (hv : ∀ R : VK, R (.str z) H → tv σ H R)
    (hw : ∀ x, wipe ((wipe σ vs).set i (some x)) vs = wipe σ vs)
    (ht : ∀ (c : Nat) (H2 : Hp) (R : Bool → Hp → Prop), Same H H2 → R (g c) H2 → tt ((wipe σ vs).set i (some (.str ⟨#[c]⟩))) H2 R)
    (he : ∀ (c : Nat) (H2 : Hp) (R : VK), R (.str (f c)) H2 → te ((wipe σ vs).set i (some (.str ⟨#[c]⟩))) H2 R)
    (k : ∀ D H2, Same H H2 → H D = none → H2 D = some (.lst (((z.cps.toList.filter g).map f).map V.str)) → Q (.ref D) H2) : tLc (iStr tv) (gName i) tt te vs σ H Q := by
  refine hv _ ⟨z, rfl, ?_⟩
  intro D nD
  have full : z.cps.size = z.cps.toList.length := Array.length_toList.symm
  refine lc_it (walk_str (z := z)) (fun m H2 => Same H H2 ∧ H2 D = some (.lst ((((z.cps.toList.take m).filter g).map f).map V.str))) ⟨same_new nD, upd_same⟩ (fun _ _ _ _ => trivial) ?_ ?_
  · rintro m v H2 H3 hm ⟨s2, hD⟩ ⟨rfl, c, hc, rfl⟩
    have at_ : z.cps.toList[m]? = some c := Array.getElem?_toList.trans hc
    refine ⟨hw _, ht c H3 _ s2 ?_⟩
    cases gc : g c with
    | true =>
      refine he c H3 _ ⟨_, hD, ?_, same_mut s2 nD, ?_⟩
      · have := List.length_filter_le g (z.cps.toList.take m)
        rw [List.length_take] at this
        rw [List.length_map, List.length_map]
        have l2 : z.cps.toList.length = z.length := Array.length_toList
        exact sl_lt (by omega)
      · rw [upd_same, take_snoc at_, List.filter_append, List.map_append, List.map_append]
        simp [gc]
    | false =>
      refine ⟨s2, ?_⟩
      rw [hD, take_snoc at_, List.filter_append]
      simp [gc]
  · rintro H2 ⟨s2, hD⟩
    rw [full, List.take_length] at hD
    exact k D H2 s2 nD hD
theorem mul_far (c : Nat) : MulOk ⟨#[c]⟩ 8 := ⟨by decide +kernel, fun _ _ => (by decide +kernel : ¬ ((1 : Nat) : Int) > (2 ^ 63 - 1) / 8), fun _ _ => (by decide +kernel : Builtin.Str.tooLong (1 * (8 : Int).toNat) = false)⟩
/-! histories one behind the other -/
/-! what the written part says -/
theorem kit_me {K : PySem.W.Frag} (C : Addr) : PySem.W.kitOne K (.ref C) (.ref C) = some true := by
  unfold PySem.W.kitOne
  rw [if_pos (by simp)]
end DR
/-! ### laws whose own text makes lambdas: the tables of code objects are tracked from the start -/
namespace DR
open PySem PySem.Spec PyProof.Rows L2 LamX
abbrev emptyTab : Obj := { cls := .none, data := .fields #[] }
/-- what is known of the makers' code objects before the call -/
structure Makers (K : PySem.W.Frag) (mg : Str → Option Value) (h : Heap) (cs : List (Addr × Addr)) : Prop where
  tab : ∀ t ∈ cs, h.get? t.2 = some emptyTab
  out : ∀ t ∈ cs, K.lookup t.2 = none
  code : ∀ t ∈ cs, PySem.W.CodeHd h t.1 t.2
  blt : ∃ (bm : Addr) (ob : Obj), mg "__builtins__" = some (.ref bm) ∧ bm ≠ builtinsNs ∧ h.get? bm = some ob ∧ ob.cls = .type "module" ∧ ob.dict = some builtinsNs ∧ ob.data = .plain
/-- nothing is tracked but the tables and the script -/
structure OnlyT (K : PySem.W.Frag) (cs : List (Addr × Addr)) (a : Addr) (H : Hp) : Prop where
  tab : ∀ t ∈ cs, H t.2 = some (.tbl #[])
  kind : ∀ b, H b = none ∨ b ∈ cs.map (·.2) ∨ ∃ ob xs, H b = some (.frz ob (.lst xs))
  few : ∀ b, H b ≠ none → b = a ∨ b ∈ cs.map (·.2)
  scr : H a ≠ none → K.lookup a = none
theorem law_keptT {P : Program} {w : World} {K : PySem.W.Frag} {mg mb : Str → Option Value} {fa a : Addr} {cs : List (Addr × Addr)} {fd : FuncData} {x : Str} {sp : Sp} {s₁ : Shared} {vs : List Value} {ns : List Int}
    (W : Stand K mg mb s₁) (hm : Sys s₁.heap) (Mk : Makers K mg s₁.heap cs)
    (ha : s₁.heap.get? a = some { cls := .type "list", data := .seq vs.toArray }) (hi : IntsAre vs ns) (hl : ns.length ≤ sizeLine)
    (F : ∀ base : Heap, K.In base → base.Ns mainGlobals mg → Sys base → (∀ t ∈ cs, TabB base mg t.1 t.2) → Kept P w K mg base fa fd [x] sp) (hbind : ∀ (s : Shared) (u : Value), BindsTo s fd ⟨[u], []⟩ [(x, u)])
    (hsp : ∀ H : Hp, (∀ t ∈ cs, H t.2 = some (.tbl #[])) → SqL K H a (ns.map V.int) → sp [.ref a] H (fun v _ => v = .bl true) fun _ _ _ => False) :
    codeAny (model P w) callerA (.call (.ref fa) ⟨[.ref a], []⟩) (Passed s₁) s₁ := by
  have rv := vals_ints hi
  have tabAt : ∀ b, b ∈ cs.map (·.2) → s₁.heap.get? b = some emptyTab := fun b hb => by
    obtain ⟨t, ht, rfl⟩ := List.mem_map.mp hb
    exact Mk.tab t ht
  have aOut : a ∉ cs.map (·.2) := fun z => by
    have := tabAt a z
    rw [ha] at this
    cases this
  have inT : ∀ t ∈ cs, t.2 ∈ cs.map (·.2) := fun t ht => List.mem_map.mpr ⟨t, ht, rfl⟩
  have core : ∀ H : Hp, OnlyT K cs a H → SqL K H a (ns.map V.int) → HOk P w H s₁.heap → codeAny (model P w) callerA (.call (.ref fa) ⟨[.ref a], []⟩) (Passed s₁) s₁ := by
    intro H O hS ok
    have up : ∀ {b : Addr} {o : Obj}, H b = none → s₁.heap.get? b = some o → (hidT s₁.heap H).get? b = some o := fun q e => hidT_get e q
    -- what is neither the script nor a table is not tracked
    have loose : ∀ {b : Addr} {o : Obj}, s₁.heap.get? b = some o → o ≠ emptyTab → b ≠ a → H b = none := fun {b o} e n1 n2 => by
      cases q : H b with
      | none => rfl
      | some u =>
        rcases O.few b (by rw [q]; exact fun z => nomatch z) with z | z
        · exact absurd z n2
        · rw [tabAt b z] at e
          exact absurd (Option.some.inj e).symm n1
    have dictL : ∀ {b : Addr} {o : Obj} {es : Array DictEntry} {ep : Nat}, s₁.heap.get? b = some o → o.data = .dict es ep → H b = none := fun {b o es ep} e d => by
      refine loose e (fun z => ?_) fun z => ?_
      · rw [z] at d
        cases d
      · rw [z, ha] at e
        cases e
        cases d
    have ns' : ∀ {b : Addr} {m : Str → Option Value}, s₁.heap.Ns b m → (hidT s₁.heap H).Ns b m := fun {b m} ⟨o, es, ep, e, d, r⟩ => ⟨o, es, ep, up (dictL e d) e, d, r⟩
    have kin : K.In (hidT s₁.heap H) := fun b o e => by
      refine up ?_ (W.kin b o e)
      cases q : H b with
      | none => rfl
      | some u =>
        have nn : H b ≠ none := by rw [q]; exact fun z => nomatch z
        rcases O.few b nn with z | z
        · subst z
          rw [O.scr nn] at e
          cases e
        · obtain ⟨t, ht, rfl⟩ := List.mem_map.mp z
          rw [Mk.out t ht] at e
          cases e
    have sys : Sys (hidT s₁.heap H) := hm.elim fun o z => z.elim fun es z => z.elim fun ep z => ⟨o, es, ep, up (dictL z.1 z.2) z.1, z.2⟩
    have M : Mod K mg (hidT s₁.heap H) := ⟨kin, ns' W.mod, ⟨mb, ns' W.std, W.boot⟩, W.free.elim fun mc z => ⟨mc, ns' z.1, z.2⟩⟩
    have tabs : ∀ t ∈ cs, TabB (hidT s₁.heap H) mg t.1 t.2 := fun t ht => by
      have here := Mk.tab t ht
      have notG : mainGlobals ≠ t.2 := fun z => by
        obtain ⟨o, es, ep, e, d, _⟩ := W.mod
        rw [z, here] at e
        cases e
        cases d
      refine ⟨?_, ?_, notG⟩
      · obtain ⟨o, us, file, tf, flags, tg, inF, text, tt, e, r1, r2, rest⟩ := Mk.code t ht
        refine ⟨o, us, file, tf, flags, tg, inF, text, tt, up (loose e (fun z => ?_) fun z => ?_) e, r1, r2, rest⟩
        · rw [z] at r1
          cases r1
        · rw [z, ha] at e
          cases e
          exact absurd (Value.type.inj r1) (by decide)
      · obtain ⟨bm, ob, b1, b2, b3, b4, b5, b6⟩ := Mk.blt
        have n1 : bm ≠ mainGlobals := fun z => by
          obtain ⟨o, es, ep, e, d, _⟩ := W.mod
          rw [← z, b3] at e
          cases e
          rw [b6] at d
          cases d
        have n2 : bm ≠ t.2 := fun z => by
          rw [z, here] at b3
          cases b3
          cases b4
        refine ⟨bm, ob, b1, b2, n1, n2, up (loose b3 (fun z => ?_) fun z => ?_) b3, b4, b5, b6⟩
        · rw [z] at b4
          cases b4
        · rw [z, ha] at b3
          cases b3
          exact absurd (Value.type.inj b4) (by decide)
    have e0 : Env0 P w K mg (hidT s₁.heap H) callerA [] s₁ H := ⟨rfl, M, fun b o e => of_hidT e, Nat.le_of_eq (hidT_size _ _), trivial, fun b z => absurd (show b ∈ ([] : List Addr) from z) (by simp), ok, .of_eq W.none⟩
    refine codeAny_mono (F _ kin (ns' W.mod) sys tabs s₁ H _ [.ref a] [.ref a] _ _ e0 (hbind s₁ (.ref a)) (.cons rfl .nil) (hsp H O.tab hS)) fun r s' h => ?_
    cases r with
    | error e => exact False.elim h
    | ok fl =>
      cases fl with
      | next => exact False.elim h
      | brk => exact False.elim h
      | cont => exact False.elim h
      | ret u =>
        obtain ⟨v, H', os, bare, un, ok', r', q⟩ := h
        obtain rfl : v = .bl true := q
        cases r'
        have stays : ∀ b o, b ∉ cs.map (·.2) → s₁.heap.get? b = some o → s'.heap.get? b = some o := fun b o nb e => by
          rcases O.kind b with z | z | ⟨ob, xs, z⟩
          · exact un.keep b o e z (fun y => absurd (show b ∈ ([] : List Addr) from y) (by simp)) (by simp)
          · exact absurd z nb
          · have z1 := (ok _ _ z).1
            have z2 := (ok' _ _ (un.frzs _ _ _ z)).1
            rw [e] at z1
            cases z1
            exact z2
        have longer : ∀ t ∈ cs, ∃ more : Array Value, s'.heap.get? t.2 = some { cls := .none, data := .fields more } := fun t ht => by
          obtain ⟨more, z⟩ := un.tbls t.2 #[] (O.tab t ht)
          exact ⟨_, ok' t.2 _ z⟩
        refine ⟨rfl, ⟨fun b o e => ?_, fun b o e => ?_⟩, os, bare⟩
        · by_cases hb : b ∈ cs.map (·.2)
          · obtain ⟨t, ht, rfl⟩ := List.mem_map.mp hb
            obtain ⟨more, z⟩ := longer t ht
            rw [Mk.tab t ht] at e
            cases e
            exact .inr (.inl ⟨((Mk.code t ht).tab (Mk.tab t ht)).isCodeTable, rfl, #[], more, rfl, by rw [Array.empty_append]; exact z⟩)
          · exact .inl (stays b o hb e)
        · by_cases hb : b ∈ cs.map (·.2)
          · obtain ⟨t, ht, rfl⟩ := List.mem_map.mp hb
            exact (longer t ht).elim fun _ z => ⟨_, z⟩
          · exact ⟨o, stays b o hb e⟩
  cases hk : K.lookup a with
  | none =>
    have at_a : ∀ u : Option HO, (if a = a then u else none) = u := fun u => if_pos rfl
    refine core (fun b => if b = a then some (.frz { cls := .type "list", data := .seq vs.toArray } (.lst (ns.map V.int))) else if b ∈ cs.map (·.2) then some (.tbl #[]) else none) ⟨fun t ht => ?_, fun b => ?_, fun b => ?_, fun _ => hk⟩ (.inl (.inr ⟨_, if_pos rfl⟩)) fun b u z => ?_
    · have ne : t.2 ≠ a := fun z => aOut (by rw [← z]; exact inT t ht)
      rw [if_neg ne, if_pos (inT t ht)]
    · by_cases q : b = a
      · exact .inr (.inr ⟨_, _, if_pos q⟩)
      · by_cases q2 : b ∈ cs.map (·.2)
        · exact .inr (.inl q2)
        · exact .inl (by rw [if_neg q, if_neg q2])
    · by_cases q : b = a
      · exact fun _ => .inl q
      · by_cases q2 : b ∈ cs.map (·.2)
        · exact fun _ => .inr q2
        · exact fun n => absurd (by rw [if_neg q, if_neg q2]) n
    · by_cases q : b = a
      · have e' := (if_pos q).symm.trans z
        cases e'
        subst q
        have fit : (ns.map V.int).length ≤ sizeLine := (List.length_map _).symm ▸ hl
        exact ⟨ha, fit, vs, _, rv, ha⟩
      · have e' := (if_neg q).symm.trans z
        by_cases q2 : b ∈ cs.map (·.2)
        · have e2 := (if_pos q2).symm.trans e'
          cases e2
          exact tabAt b q2
        · have e2 := (if_neg q2).symm.trans e'
          cases e2
  | some o =>
    have e := W.kin a o hk
    rw [ha] at e
    cases e
    refine core (fun b => if b ∈ cs.map (·.2) then some (.tbl #[]) else none) ⟨fun t ht => if_pos (inT t ht), fun b => ?_, fun b => ?_, fun z => absurd (if_neg aOut) z⟩ (.inr ⟨_, vs.toArray, _, hk, rfl, rfl, rfl, ?_, by simpa using rv⟩) fun b u z => ?_
    · by_cases q2 : b ∈ cs.map (·.2)
      · exact .inr (.inl q2)
      · exact .inl (if_neg q2)
    · by_cases q2 : b ∈ cs.map (·.2)
      · exact fun _ => .inr q2
      · exact fun n => absurd (if_neg q2) n
    · simpa [hi.length] using hl
    · by_cases q2 : b ∈ cs.map (·.2)
      · have e2 := (if_pos q2).symm.trans z
        cases e2
        exact tabAt b q2
      · have e2 := (if_neg q2).symm.trans z
        cases e2
theorem walk_keptT {l : PySem.W.OpenLaw} {q : Program} {loose : List Str} {XP : (Str → Option Value) → Heap → Prop} {YP : World → Heap → Prop} {d : DefRec} {K : Params → PySem.W.Frag} {cs : List (Addr × Addr)} {sp : PySem.W.Frag → Sp} {x : Str}
    (hq : PyProof.Rows.importsNone q = true) (hn : l.most = some 63) (hdf : d.params.defaults = []) (hY : ∀ (w : World) (h : Heap), YP w h → (K w.params).In h)
    (hT : ∀ (w : World) (h : Heap), YP w h → ∀ t ∈ cs, h.get? t.2 = some emptyTab) (hO : ∀ w : World, ∀ t ∈ cs, (K w.params).lookup t.2 = none) (hC : ∀ w : World, ∀ t ∈ cs, PySem.W.codeHdIn (K w.params) t.1 t.2 = true)
    (F : ∀ (w : World) (mg : Str → Option Value) (at_ : Addr) (g : Heap), (K w.params).In g → g.Ns mainGlobals mg → mg d.name = some (.ref at_) →
      ∃ fd : FuncData, (∀ (s : Shared) (u : Value), BindsTo s fd ⟨[u], []⟩ [(x, u)]) ∧ ∀ base : Heap, (K w.params).In base → base.Ns mainGlobals mg → Sys base → (∀ t ∈ cs, TabB base mg t.1 t.2) → Kept l.prog w (K w.params) mg base at_ fd [x] (sp (K w.params)))
    (hsp : ∀ (K : PySem.W.Frag) (H : Hp) (a : Addr) (ns : List Int), ns.length ≤ 63 → (∀ t ∈ cs, H t.2 = some (.tbl #[])) → SqL K H a (ns.map V.int) → sp K [.ref a] H (fun v _ => v = .bl true) fun _ _ _ => False) :
    PySem.W.WalkO q loose XP YP l.row.toRowW d [] (fun f vs => PySem.call f vs) := by
  refine Att.attach_call hn hdf ?_
  intro w _ _ mg _ fa _ _ _ _ a _ ns G Y _ _ _ hmg hobj hints hlen hg
  have kin := hY w _ Y
  obtain ⟨fd, hb, hF⟩ := F w mg fa _ kin G.T.g hmg
  obtain ⟨mm, ⟨o, es, ep, e1, e2, _⟩, _⟩ := (G.T.seer hq).mods
  exact law_keptT ⟨kin, G.T.g, G.T.b, G.T.builtins, G.T.nolimit, hg⟩ ⟨o, es, ep, e1, e2⟩ ⟨hT w _ Y, hO w, fun t ht => PySem.W.codeHd_of_K kin (hC w t ht), G.T.bmain⟩ hobj hints (Nat.le_trans hlen (by decide)) hF hb fun H h1 hS => hsp _ H a ns hlen h1 hS
/-! a def whose code object is known -/
structure FunC (K : PySem.W.Frag) (x : Str) (st : Stmt) (f : Addr) (fd : FuncData) (c : Addr) : Prop where
  ex : ∃ (oc kV doc pm ct : Value) (od an : Option Addr) (osl : Array (Option Value)), fd = PySem.W.fnOf x x (defArgs st) (defBody st) (defScope st) .none kV doc pm an (.ref c) ct ∧ K.lookup f = some ⟨oc, od, .func fd, osl⟩ ∧ PySem.W.codeIn K (.ref c) x = true ∧ PySem.W.keepIn K (.ref f) = true
theorem FunC.fn {K : PySem.W.Frag} {x : Str} {st : Stmt} {f c : Addr} {fd : FuncData} (F : FunC K x st f fd c) : Fun K x x st f fd := by
  obtain ⟨_, _, _, _, _, _, _, _, rfl, l, k, k2⟩ := F.ex
  exact L2.fun_mk (st := st) l k k2
structure DfC (K : PySem.W.Frag) (mg : Str → Option Value) (x : Str) (st : Stmt) (c : Addr) : Prop where
  ex : ∃ (f : Addr) (fd : FuncData), FunC K x st f fd c ∧ mg x = some (.ref f) ∧ PySem.W.keepIn K (.ref f) = true
theorem df_mkC {K : PySem.W.Frag} {h : Heap} {mg : Str → Option Value} {x : Str} {st : Stmt} {f c : Addr} {oc : Value} {od an : Option Addr} {osl : Array (Option Value)} {kV doc pm ct : Value} (X : K.In h) (G : h.Ns mainGlobals mg)
    (a : PySem.W.nsIn K mainGlobals x = some (some (.ref f))) (l : K.lookup f = some ⟨oc, od, .func (PySem.W.fnOf x x (defArgs st) (defBody st) (defScope st) .none kV doc pm an (.ref c) ct), osl⟩) (k2 : PySem.W.codeIn K (.ref c) x = true) (k : PySem.W.keepIn K (.ref f) = true) : DfC K mg x st c :=
  ⟨f, _, ⟨oc, kV, doc, pm, ct, od, an, osl, rfl, l, k2, k⟩, PySem.W.mg_of X G a, k⟩
/-- the law's own def, where it makes lambdas: its code object stands at c -/
theorem kept_ofC {P : Program} {w : World} {K : PySem.W.Frag} {mg : Str → Option Value} {base : Heap} {x : Str} {st : Stmt} {f c : Addr} {fd : FuncData} {N ps : List Str} {k : Nat} {sp : Sp} (F : FunC K x st f fd c) (S : FnScope N ps (defScope st))
    (len : ∀ vs H Q E, sp vs H Q E → vs.length = ps.length) (room : Room (k + 1) callerA)
    (body : ∀ (s : Shared) (H : Hp) (vs : List V) (Q : VK) (E : XK), Room k (callerA.deeper (envOfC x (defScope st) s.heap.objs.size f (.ref c))) → sp vs H Q E →
      ∃ t, PSs (cxOf CX0 P w K mg base N x (defScope st) f (.ref c) callerA [] s H E).nox (defBody st) t ∧ t { nx := fun _ H' => Q .non H', rt := Q } (start N vs) H) : Kept P w K mg base f fd ps sp := by
  obtain ⟨oc, kV, doc, pm, ct, od, an, osl, rfl, found, code, _⟩ := F.ex
  intro s H args us vs Q E e0 hb r hsp
  have hl := len _ _ _ _ hsp
  have kin : K.In s.heap := e0.mod.kin.keeps fun b o e => (e0.bs b o e).1
  have free := e0.mod.nolimit.keeps fun b o e => (e0.bs b o e).1
  have kinds : ∀ y ∈ ps.zip us, (defScope st).names.lookup y.1 = some .local ∨ ((defScope st).names.lookup y.1 = some .cell ∧ ((cellsFrom (s.heap.objs.size + 1) (defScope st).names []).lookup y.1).isSome = true) := by
    rintro ⟨n, v⟩ hy
    exact (S.par n (List.of_mem_zip hy).1).imp_right fun q => ⟨q, PySem.W.cellsFrom_some _ _ _ (.inl q)⟩
  refine codeAny_call_function room.depth (kin _ _ found) rfl S.co S.gen rfl (PySem.W.codeRec_of kin code) (hb _ _ _ _ ?_)
  refine wpAny_newFunctionEnv_cells S.kind kinds fun env he s1 z => ?_
  subst he
  refine ⟨free.keeps z.toInCall.keep, codeAny_func ?_⟩
  obtain ⟨t, ht, hq⟩ := body s H vs Q E (room.deeper _) hsp
  have I : Inv (cxOf CX0 P w K mg base N x (defScope st) f (.ref c) callerA [] s H E) [] (start N vs) H s1 := inv_start S room.hd e0 hl r z
  refine wpAny_mono (ht.nox.run [] s1 (start N vs) H _ I hq) (fun fl s2 hs => ?_) fun e s2 hs => hs
  cases fl with
  | ret u =>
    obtain ⟨v, _, H', J, rv, q⟩ := hs
    exact ⟨v, H', J.os, J.bare, J.base, J.hok, rv, q⟩
  | next =>
    obtain ⟨_, H', J, q⟩ := hs
    exact ⟨.non, H', J.os, J.bare, J.base, J.hok, rfl, q⟩
  | brk => exact hs.elim fun _ z => z.elim fun _ y => y.2.elim
  | cont => exact hs.elim fun _ z => z.elim fun _ y => y.2.elim
theorem law_ofT {l : PySem.W.OpenLaw} {w : World} {K : PySem.W.Frag} {mg : Str → Option Value} {fa c P : Addr} {x y : Str} {st : Stmt} {sp : Sp} (hfa : mg x = some (.ref fa)) (D : DfC K mg x st c)
    (b : ∀ (kV doc pm : Value) (an : Option Addr) (cdv ct : Value) (s : Shared) (v : Value), BindsTo s (PySem.W.fnOf x x (defArgs st) (defBody st) (defScope st) .none kV doc pm an cdv ct) ⟨[v], []⟩ [(y, v)])
    (ok : ∀ (base : Heap), Sys base → TabB base mg c P → ∀ f fd, FunC K x st f fd c → Kept l.prog w K mg base f fd [y] sp) :
    ∃ fd : FuncData, (∀ (s : Shared) (v : Value), BindsTo s fd ⟨[v], []⟩ [(y, v)]) ∧ ∀ base : Heap, K.In base → base.Ns mainGlobals mg → Sys base → (∀ t ∈ [(c, P)], TabB base mg t.1 t.2) → Kept l.prog w K mg base fa fd [y] sp := by
  obtain ⟨f, fd, F, hm, kp⟩ := D.ex
  cases hfa.symm.trans hm
  refine ⟨fd, ?_, fun base _ _ hs ht => ok base hs (ht _ List.mem_cons_self) fa fd F⟩
  obtain ⟨_, kV, doc, pm, ct, _, an, _, rfl, _⟩ := F.ex
  exact b kV doc pm an (.ref c) ct
def sp_lawT (P : Addr) (K : PySem.W.Frag) : Sp := fun vs H Q _ => ∃ (a : Addr) (ns : List Int), vs = [.ref a] ∧ H P = some (.tbl #[]) ∧ SqL K H a (ns.map V.int) ∧ ns.length ≤ 63 ∧ ∀ H', Q (.bl true) H'
end DR
/-! ### the laws' own texts of roads -/
namespace DR
open PySem PySem.Spec PyProof.Rows L2 TL
def sp__law_road_text (K : PySem.W.Frag) : Sp := fun vs H Q _ => ∃ (q : Int) (A : Addr) (xs : List V) (as : List Act), vs = [.int q, .ref A] ∧ SqL K H A xs ∧ ActVs K H xs as ∧ 0 < q ∧ q ≤ 97 ∧ (∀ a ∈ as, OkA a) ∧ as.length ≤ 60 ∧ ∀ H', Same H H' → Q (.str (svT q as)) H'
theorem prL_plus (q : Int) : ("prime " : Str) ++ ctS q = prL q := by
  refine ext_tl ?_
  unfold prL
  rw [tl_append, tl_append, tl_append]
  rfl
theorem ct_some (c : Int) : ctS c ≠ "" := fun z => ct_ne c (by rw [z]; rfl)
end DR
namespace DR
open PySem PySem.Spec PyProof.Rows L2 TL
def sp__law_historyD (K : PySem.W.Frag) : Sp := fun vs H Q _ => ∃ (p c N : Addr) (most : Int) (dp : Bool) (ns : List Str) (n : Nat), vs = [.ref p, .ref N, .int most, .bl dp] ∧ 0 ≤ most ∧ most ≤ 12 ∧ H N = some (.lst (ns.map V.str)) ∧ ns.Nodup ∧ (∀ z ∈ ns, nameOk z = true) ∧ 0 < ns.length ∧ ns.length ≤ 8 ∧ PenAt H p c n ∧ n < 2 ^ 36 ∧
  ∀ (L : Addr) (xs : List V) (as : List Act) (H' : Hp), Kp p H H' → PenAt H' p c (n + 1000) → H L = none → H' L = some (.lst xs) → ActVs K H' xs as → Taken as → as.length ≤ most.toNat → (∀ n d b, Act.run n d b ∈ as → DeepP b) → (∀ z ∈ namesOf as, z ∈ ns) → Q (.ref L) H'
end DR
namespace DR
open PySem PySem.Spec PyProof.Rows L2 TL
theorem far5_nodup : (("abcde" : Str).cps.toList.map far8).Nodup ∧ ∀ ch ∈ ("abcde" : Str).cps.toList, nameOk (far8 ch) = true := by decide +kernel
/-- one of five long names is not among four -/
theorem far5 {ns : List Str} (h : ns.length ≤ 4) : ∃ ch r, (("abcde" : Str).cps.toList.filter fun ch => !decide (far8 ch ∈ ns)) = ch :: r ∧ far8 ch ∉ ns ∧ nameOk (far8 ch) = true := by
  obtain ⟨nd, ok⟩ := far5_nodup
  cases e : ("abcde" : Str).cps.toList.filter fun ch => !decide (far8 ch ∈ ns) with
  | nil =>
    have all : ∀ z ∈ ("abcde" : Str).cps.toList.map far8, z ∈ ns := fun z hz => by
      obtain ⟨ch, hc, rfl⟩ := List.mem_map.mp hz
      have := List.filter_eq_nil_iff.mp e ch hc
      simpa using this
    have l5 := nodup_le _ ns nd all
    have : (("abcde" : Str).cps.toList.map far8).length = 5 := by decide +kernel
    omega
  | cons ch r =>
    have hm : ch ∈ ("abcde" : Str).cps.toList.filter fun ch => !decide (far8 ch ∈ ns) := by
      rw [e]
      exact List.mem_cons_self
    obtain ⟨h1, h2⟩ := List.mem_filter.mp hm
    exact ⟨ch, r, rfl, by simpa using h2, ok ch h1⟩
end DR
/-! ### sorted(xs, key=lambda y: y[k]): a lambda with a parameter, made and called -/
namespace DR
open PySem PySem.Spec PyProof.Rows L2 LamX
section
variable {X : Cx}
theorem rd_ext {H H' : Hp} {a : Addr} {u : HO} (e : ExtN H H') (h : L2.Rd H a u) (n : ∀ ps, u ≠ .tbl ps) : L2.Rd H' a u :=
  h.imp (fun q => e _ _ q n) fun ⟨o, q⟩ => ⟨o, e _ _ q fun _ z => nomatch z⟩
theorem sqL_ext {K : PySem.W.Frag} {H H' : Hp} {a : Addr} {xs : List V} (e : ExtN H H') (h : SqL K H a xs) : SqL K H' a xs := h.imp (fun q => rd_ext e q fun _ z => nomatch z) id
theorem sqT_ext {K : PySem.W.Frag} {H H' : Hp} {a : Addr} {xs : List V} (e : ExtN H H') (h : SqT K H a xs) : SqT K H' a xs := h.imp (fun q => rd_ext e q fun _ z => nomatch z) id
end
end DR
/-! ### what is known, carried over the making of a lambda: all but tables stays -/
namespace DR
open PySem PySem.Spec PyProof.Rows L2 LamX
section
variable {K : PySem.W.Frag} {H H' : Hp}
mutual
theorem Dp.ext (e : ExtN H H') : ∀ {v : V} {d : PyData}, Dp K H v d → Dp K H' v d
  | _, _, .non => .non
  | _, _, .bl b => .bl b
  | _, _, .int i => .int i
  | _, _, .str x => .str x
  | _, _, .lst h t => .lst (sqL_ext e h) (DpAll.ext e t)
  | _, _, .tup h t => .tup (sqT_ext e h) (DpAll.ext e t)
theorem DpAll.ext (e : ExtN H H') : ∀ {vs : List V} {ds : List PyData}, DpAll K H vs ds → DpAll K H' vs ds
  | _, _, .nil => .nil
  | _, _, .cons h t => .cons (Dp.ext e h) (DpAll.ext e t)
end
theorem _root_.LamX.ExtN.get (e : ExtN H H') {b : Addr} {o : HO} (h : H b = some o) (n : ∀ ps, o ≠ .tbl ps := by intro _ z; cases z) : H' b = some o := e b o h n
theorem _root_.LamX.ExtN.er (M : Addr → Prop) (e : ExtN H H') : ExtN (erM M H) (erM M H') := fun b o h n => by
  obtain ⟨h1, h2⟩ := erM_at h
  exact erM_of h1 (e b o h2 n)
theorem ActV.ext {v : V} {a : Act} (e : ExtN H H') (h : ActV K H v a) : ActV K H' v a := by
  cases a with
  | enter n pl =>
    obtain ⟨t, e1, z⟩ := h
    exact ⟨t, e1, sqT_ext e z⟩
  | run n d b =>
    obtain ⟨t, u, e1, z, hd, hp⟩ := h
    exact ⟨t, u, e1, sqT_ext e z, Dp.ext e hd, hp⟩
theorem ActVs.ext (e : ExtN H H') : ∀ {xs : List V} {as : List Act}, ActVs K H xs as → ActVs K H' xs as
  | _, _, .nil => .nil
  | _, _, .cons r q => .cons (r.ext e) (ActVs.ext e q)
theorem PenAt.ext {p c : Addr} {n : Nat} (e : ExtN H H') (h : PenAt H p c n) : PenAt H' p c n := by
  obtain ⟨ns, u, l, h1, h2, h3⟩ := h.ex
  exact ⟨ns, u, l, e.get h1, e.get h2, h3⟩
theorem MOk.ext {M : Addr → Prop} {p : Addr} (e : ExtN H H') (m : MOk M p H) : MOk M p H' :=
  ⟨m.pen, fun b h => (m.lists b h).imp id fun z => z.elim fun xs q => ⟨xs, e.get q⟩, m.dict.elim fun _ q => ⟨_, e.get q⟩⟩
theorem RoadAt.ext {C r D T : Addr} {M : Addr → Prop} {q : Int} {as bs : List Act} (e : ExtN H H') (R : RoadAt K C M H r D T q as bs) : RoadAt K C M H' r D T q as bs := by
  obtain ⟨⟨dx, h1⟩, ⟨xs, h2, h3⟩, ⟨ys, h4, h5⟩, mD, mT, nr, ne, r7, r8, r9⟩ := R
  exact ⟨⟨dx, e.get h1⟩, ⟨xs, e.get h2, ActVs.ext (e.er M) h3⟩, ⟨ys, e.get h4, ActVs.ext (e.er M) h5⟩, mD, mT, nr, ne, r7, r8, r9⟩
theorem PV.ext {v : V} {b : List Ins} (e : ExtN H H') (h : PV K H v b) : PV K H' v b := h.elim fun d z => ⟨d, Dp.ext e z.1, z.2⟩
end
end DR
open L2 PySem PySem.Spec PyProof.Rows
/-! a word of units as a walk: how often it turns at a place, how often it goes over an edge (from e to e + 1) -/
open L2 PySem PySem.Spec PyProof.Rows
/-! what a certificate says of every word of units with that effect -/
namespace DR
/-- a list of triples that lies in the heap by itself -/
def LstT (K : PySem.W.Frag) (H : Hp) (L : Addr) (ts : List Tri) : Prop := ∃ ys, H L = some (.lst ys) ∧ TriVs K H ys ts
theorem LstT.kp {K : PySem.W.Frag} {H H' : Hp} {p c L : Addr} {n : Nat} {ts : List Tri} (pen : PenAt H p c n) (k : Kp p H H') (h : LstT K H L ts) : LstT K H' L ts := by
  obtain ⟨ys, h1, h2⟩ := h
  exact ⟨ys, k _ _ (pen_nl pen h1) h1, TriVs.tp (pen.tp k) h2⟩
theorem TriVs.put {K : PySem.W.Frag} {H : Hp} : ∀ {xs : List V} {ts : List Tri} (j : Nat) {x : V} {t : Tri}, TriVs K H xs ts → TriV K H x t → TriVs K H (xs.set j x) (ts.set j t)
  | _, _, _, _, _, .nil, _ => .nil
  | _, _, 0, _, _, .cons _ q, h => .cons h q
  | _, _, j + 1, _, _, .cons r q, h => .cons r (TriVs.put j q h)
def NearT (ts : List Tri) : Prop := ∀ t ∈ ts, t.1.natAbs < 2 ^ 61 ∧ t.2.1.natAbs < 2 ^ 61
end DR
open L2 PySem PySem.Spec PyProof.Rows
/-! lists of certificates that a law draws (k55) -/
namespace DR
/-- a certificate: a tuple of a list of pairs and a list of triples -/
def CertV (K : PySem.W.Frag) (H : Hp) (x : V) : Prop := ∃ T L1 L2 g ts, x = .ref T ∧ SqT K H T [.ref L1, .ref L2] ∧ LstP K H L1 g ∧ g.length ≤ 1000 ∧ LstT K H L2 ts ∧ ts.length ≤ 1000 ∧ NearT ts
theorem CertV.kp {K : PySem.W.Frag} {p c : Addr} (H H' : Hp) (n : Nat) (x : V) (pen : PenAt H p c n) (k : Kp p H H') (h : CertV K H x) : CertV K H' x := by
  obtain ⟨T, L1, L2, g, ts, e, hT, h1, l1, h2, l2, nr⟩ := h
  exact ⟨T, L1, L2, g, ts, e, tp_t (pen.tp k) hT, h1.kp pen k, l1, h2.kp pen k, l2, nr⟩
/-- the way there and back that a law adds to a word: it leaves nothing -/
def there : List Ins := [.step 1, .turn 1, .step (-1)]
def back : List Ins := [.step 1, .turn (-1), .step (-1)]
end DR
/-! ### roads told by effects -/
namespace DR
open PySem PySem.Spec PyProof.Rows L2 LamX
/-- a program of few instructions whose repeats are few -/
structure MidP (b : List Ins) (k N m : Nat) : Prop where
  gd : GdP b k N m
  rp : RP 5 b
theorem MidP.app {b c : List Ins} {k j N M m l : Nat} (h : MidP b k N m) (h2 : MidP c j M l) : MidP (b ++ c) (max k j) (N + M) (m + l) := ⟨h.gd.app h2.gd, RP_app _ _ h.rp h2.rp⟩
theorem MidP.rep {b : List Ins} {k N m : Nat} {n : Int} (h : MidP b k N m) (h0 : 0 ≤ n) (h5 : n ≤ 5) : MidP [.rep n b] (k + 1) (N + 1) (m + 1) := by
  refine ⟨h.gd.rep h0 (Int.le_trans h5 (by decide +kernel)), ?_⟩
  rw [RP_cons, RI]
  exact ⟨⟨h5, h.rp⟩, by rw [RP]; trivial⟩
theorem MidP.up {b : List Ins} {k j N M m l : Nat} (h : MidP b k N m) (h1 : k ≤ j) (h2 : N ≤ M) (h3 : m ≤ l) : MidP b j M l := ⟨h.gd.up h1 h2 h3, h.rp⟩
theorem MidP.ex {b : List Ins} {k N m : Nat} (h : MidP b k N m) : exP b ≤ ((N * 5 ^ k : Nat) : Int) :=
  Int.le_trans (ex_bd (R := 5) (by decide) k b h.gd.d (ctP_parts h.gd.g).2.1 h.rp) (Int.ofNat_le.mpr (Nat.mul_le_mul_right _ h.gd.c))
/-- a comprehension over what an expression gives that is worked out first -/
theorem lcOver {tv : TI} {g : TG} {te : TE} {σ : L2.St} {H : Hp} {vs : List Nat} {Q : VK} (W : It → Hp → Prop) (hv : ∀ S : It → Hp → Prop, (∀ J H0, W J H0 → S J H0) → tv σ H S) (rest : ∀ J H0, W J H0 → tLc (fun _ H' S => S J H') g tYes te vs σ H0 Q) : tLc tv g tYes te vs σ H Q :=
  hv _ fun J H0 h => rest J H0 h
section
variable {K : PySem.W.Frag} {H H' : Hp} {T : List (Addr × Str)}
theorem tabs_but {M : Addr → Prop} (t : Tabs T H) (k : Kst M H H') (m : ∀ b, M b → (∃ kvs, H b = some (.dK kvs)) ∨ ∃ xs, H b = some (.lst xs)) : Tabs T H' := fun q hq => by
  obtain ⟨ps, h1, h2, h3⟩ := t q hq
  have out : ∀ b o, H b = some o → (∀ kvs, o ≠ .dK kvs) → (∀ xs, o ≠ .lst xs) → ¬ M b := fun b o e n1 n2 z => by
    rcases m b z with ⟨kvs, y⟩ | ⟨xs, y⟩
    · exact n1 kvs (Option.some.inj (e.symm.trans y))
    · exact n2 xs (Option.some.inj (e.symm.trans y))
  refine ⟨ps, k _ _ (out _ _ h1 (fun _ z => nomatch z) fun _ z => nomatch z) h1, h2, fun pos cv hc => ?_⟩
  obtain ⟨c, e, hco⟩ := h3 pos cv hc
  exact ⟨c, e, k _ _ (out _ _ hco (fun _ z => by unfold CodeO at z; cases z) fun _ z => by unfold CodeO at z; cases z) hco⟩
theorem tabs_kp {p c : Addr} {n : Nat} (t : Tabs T H) (pen : PenAt H p c n) (k : Kp p H H') : Tabs T H' :=
  tabs_but (M := fun b => b = p) t (fun b o nb e => k b o nb e) fun b hb => by
    obtain ⟨kvs, e⟩ := pen.dk
    exact .inl ⟨kvs, by rw [hb]; exact e⟩
theorem tabs_kst {p : Addr} {M : Addr → Prop} (t : Tabs T H) (m : MOk M p H) (k : Kst M H H') : Tabs T H' :=
  tabs_but t k fun b hb => by
    rcases m.lists b hb with e | e
    · exact .inl (by rw [e]; exact m.dict)
    · exact .inr e
theorem ActV.kp {p c : Addr} {n : Nat} {v : V} {a : Act} (pen : PenAt H p c n) (k : Kp p H H') (h : ActV K H v a) : ActV K H' v a := by
  cases a with
  | enter m pl =>
    obtain ⟨t, e, z⟩ := h
    exact ⟨t, e, tp_t (pen.tp k) z⟩
  | run m d b =>
    obtain ⟨t, u, e, z, hd, hp⟩ := h
    exact ⟨t, u, e, tp_t (pen.tp k) z, Dp.kp pen k hd, hp⟩
theorem ActVs.kp {p c : Addr} {n : Nat} (pen : PenAt H p c n) (k : Kp p H H') : ∀ {xs : List V} {as : List Act}, ActVs K H xs as → ActVs K H' xs as
  | _, _, .nil => .nil
  | _, _, .cons r q => .cons (r.kp pen k) (ActVs.kp pen k q)
end
/-- names, and where each of them starts -/
structure Sta (K : PySem.W.Frag) (p c : Addr) (n : Nat) (H : Hp) (N S : Addr) (q : Int) (ns : List Str) (xs : List V) (as : List Act) : Prop where
  q0 : 0 < q
  q9 : q ≤ 97
  pen : PenAt H p c n
  nm : H N = some (.lst (ns.map V.str))
  len : ns.length = 3
  nd : ns.Nodup
  ok : ∀ z ∈ ns, nameOk z = true
  ls : H S = some (.lst xs)
  acts : ActVs K H xs as
  names : namesOf as = ns
  ent : ∀ a ∈ as, ∃ m pl, a = Act.enter m pl ∧ pl.natAbs ≤ 9
section
variable {K : PySem.W.Frag} {p c N S : Addr} {n m : Nat} {H H' : Hp} {q : Int} {ns : List Str} {xs : List V} {as : List Act}
theorem Sta.kp (h : Sta K p c n H N S q ns xs as) (k : Kp p H H') (pen : PenAt H' p c m) : Sta K p c m H' N S q ns xs as :=
  ⟨h.q0, h.q9, pen, kp_lst h.pen k h.nm, h.len, h.nd, h.ok, kp_lst h.pen k h.ls, ActVs.kp h.pen k h.acts, h.names, h.ent⟩
theorem Sta.same (h : Sta K p c n H N S q ns xs as) (s : Same H H') : Sta K p c n H' N S q ns xs as := h.kp (Same.kp s) (h.pen.same s)
theorem Sta.ext (h : Sta K p c n H N S q ns xs as) (e : ExtN H H') : Sta K p c n H' N S q ns xs as :=
  ⟨h.q0, h.q9, h.pen.ext e, e.get h.nm, h.len, h.nd, h.ok, e.get h.ls, ActVs.ext e h.acts, h.names, h.ent⟩
theorem Sta.mono (h : Sta K p c n H N S q ns xs as) (le : n ≤ m) : Sta K p c m H N S q ns xs as := ⟨h.q0, h.q9, h.pen.mono le, h.nm, h.len, h.nd, h.ok, h.ls, h.acts, h.names, h.ent⟩
end
/-- a list of actions that stands outside what may change -/
structure HisAt (K : PySem.W.Frag) (M : Addr → Prop) (H : Hp) (S : Addr) (xs : List V) (as : List Act) : Prop where
  ls : erM M H S = some (.lst xs)
  acts : ActVs K (erM M H) xs as
section
variable {K : PySem.W.Frag} {M : Addr → Prop} {H H' : Hp} {S : Addr} {xs : List V} {as : List Act}
theorem HisAt.kst (h : HisAt K M H S xs as) (k : Kst M H H') : HisAt K M H' S xs as := ⟨k.er _ _ h.ls, h.acts.same k.er⟩
theorem HisAt.ext (h : HisAt K M H S xs as) (e : ExtN H H') : HisAt K M H' S xs as := ⟨(e.er M).get h.ls, ActVs.ext (e.er M) h.acts⟩
theorem HisAt.list (h : HisAt K M H S xs as) : H S = some (.lst xs) := (erM_at h.ls).2
theorem HisAt.all (h : HisAt K M H S xs as) : ActVs K H xs as := h.acts.same erM_le
end
section
variable {K : PySem.W.Frag} {C p c N r D T r2 D2 T2 : Addr} {n m : Nat} {M : Addr → Prop} {H H' : Hp} {ns : List Str} {q : Int} {as bs as' bs' cs es cs' es' : List Act}
theorem L98.ext (L : L98 K C p c n M H N ns r D T q as bs) (e : ExtN H H') : L98 K C p c n M H' N ns r D T q as bs :=
  ⟨L.pen.ext e, L.road.ext e, L.mok.ext e, (e.er M).get L.nm, L.cell⟩
theorem L98b.ext (L : L98b K C p c n M H N ns r D T q as bs r2 D2 T2 cs es) (e : ExtN H H') : L98b K C p c n M H' N ns r D T q as bs r2 D2 T2 cs es := ⟨L.l.ext e, L.two.ext e, L.ap⟩
end
def nmA : Act → Str
  | .enter n _ => n
  | .run n _ _ => n
/-! ### actions of other names pass one another -/
def SameS (m k : List (Str × Int)) : Prop := ∀ n, gS m n = gS k n
theorem step_at (m : List (Str × Int)) (a : Act) (n : Str) : gS (stStep m a) n = if nmA a = n then some (match a with | .enter _ pl => pl | .run k _ b => (gS m k).getD 0 + shP b) else gS m n := by
  cases a with
  | enter k pl => exact gS_put m k n pl
  | run k d b => exact gS_put m k n _
theorem SameS.step {m k : List (Str × Int)} (h : SameS m k) (a : Act) : SameS (stStep m a) (stStep k a) := fun n => by
  rw [step_at, step_at, h n]
  cases a with
  | enter j pl => rfl
  | run j d b =>
    dsimp only
    rw [h j]
end DR
/-! ### calls that find nothing left, handed on as lambdas -/
namespace DR
open PySem PySem.Spec PyProof.Rows L2 LamX
/-- the class NothingLeft -/
abbrev LeftF (P : Program) (w : World) (K : PySem.W.Frag) (mg : Str → Option Value) (base : Heap) (C : Addr) : Prop := OwnF P w K mg base "LookupError" "LookupError.__new__" "LookupError.__init__" [.type "LookupError", .type "Exception", .type "BaseException", .type "object"] "NothingLeft" "word" C
def sp_undoN (K : PySem.W.Frag) (C CN : Addr) : Sp := fun vs H _ E => ∃ (r D T : Addr) (q : Int) (bs : List Act) (M : Addr → Prop), vs = [.ref r] ∧ RoadAt K C M H r D T q [] bs ∧ ∀ d, H d = none → E (.ref CN) (some d) (upd H d (.xd [("word", .str "undo")]))
def sp_redoN (K : PySem.W.Frag) (C CN : Addr) : Sp := fun vs H _ E => ∃ (r D T : Addr) (q : Int) (as : List Act) (M : Addr → Prop), vs = [.ref r] ∧ RoadAt K C M H r D T q as [] ∧ ∀ d, H d = none → E (.ref CN) (some d) (upd H d (.xd [("word", .str "redo")]))
/-- what the def makes of the call: yes where it raises, no where it does not -/
def TLeft (K : PySem.W.Frag) (CN : Addr) : (XK → Hp → VK → Prop) → Hp → VK → Prop := fun tl H Q =>
  tl (fun cls _ H' => PySem.W.exmOne K cls (.ref CN) = some true ∧ Q (.bl true) H') H fun _ H' => Q (.bl false) H'
section
variable {X : Cx}
theorem left_gives {Ng : List Str} {x a e q : Str} {sg : Scope} {g CN : Addr} {cdg : Value} {j j2 : Nat} {p1 p2 p3 p4 p5 p6 p7 p8 p9 p10 : Pos} (hge : sg.names.lookup e = some .globalImplicit) (hme : X.mg e = some (.ref CN)) (hde : (e == ("__debug__" : Str)) = false) (h0 : ∀ f : Addr, (L2.start Ng [V.ref f])[0]? = some (some (V.ref f))) :
    GivesTo X Ng x sg g cdg [.Try [.Expr (.Call (.Name a p1) [] [] p2) p3] [.ExceptHandler (some (.Name e p4)) none [.Return (some (.Constant (.bool true) j p5)) p6] p7] [] [] p8, .Return (some (.Constant (.bool false) j2 p9)) p10] a q (TLeft X.K CN) := by
  intro f c' s H Q tl act hc h
  refine ⟨_, pss_cons (ps_try_only (X := (cxOf C8.CX0 X.prog X.w X.K X.mg X.base Ng x sg g cdg X.A X.stack s H C8.E0).nox) (c := .ref CN)
      (tb := fun W D σ H => ∃ E : XK, (∀ cls d σ' H', E cls d H' → W cls d σ' H') ∧ σ[0]? = some (some (.ref f)) ∧ H c' = some (CodeO c' q) ∧ tl E H fun _ H' => D.nx σ H')
      rfl rfl ⟨(show Gl _ e from hge), hde, .inl hme⟩ LamX.takes0 (fun W pn xe tk _ => ?_) (fun a oe cls d pn _ _ => pss_one (ps_ret pe_bl))) (pss_one (ps_ret pe_bl)), ?_⟩
  · refine ⟨fun pins s' σ H' D I z => ?_⟩
    obtain ⟨E, hW, z1, z2, z3⟩ := z
    exact (pss_one (ps_expr (pos := p3) (act W pn xe E p1 p2 tk hW))).run pins s' σ H' D I ⟨z1, z2, z3⟩
  · exact ⟨fun cls _ H' => PySem.W.exmOne X.K cls (.ref CN) = some true ∧ Q (.bl true) H', fun cls d σ' H' ⟨z1, z2⟩ => ⟨true, z1, fun _ a _ => z2, fun z => nomatch z⟩, h0 f, hc, h⟩
/-- what a lambda handed on asks of the def that makes it -/
structure Hands (X : Cx) (tbs : List (Addr × Str)) (made pt : Addr) : Prop where
  tab : TabB X.base X.mg made pt
  code : X.env.code = .ref made
  mem : (pt, X.env.qual ++ "<lambda>") ∈ tbs
  only : ∀ e ∈ tbs, e.1 = pt → e.2 = X.env.qual ++ "<lambda>"
/-- name(lambda: what), name told by its def -/
theorem pe_handed {st : Stmt} {tbs : List (Addr × Str)} {TT : (XK → Hp → VK → Prop) → Hp → VK → Prop} {name arg : Str} {made pt : Addr} {m : Nat} {ps : Arguments} {what : Expr} {ls : Scope} {tw : XK → TE} {q1 q2 q3 : Pos} (D : Df X.K X.mg name st) (glob : Gl X name) (W : Hands X tbs made pt) (room : Room (m + 2) X.A)
    (bnd : ∀ (v1 v2 v3 : Value) (o : Option Addr) (v4 v5 : Value) (us : List Value), us.length = [arg].length → bindArgs (PySem.W.fnOf name name (defArgs st) (defBody st) (defScope st) .none v1 v2 v3 o v4 v5) ⟨us, []⟩ = pure ([arg].zip us)) (scp : FnScope [arg] [arg] (defScope st)) (vis : Vis (defScope st) arg)
    (gives : ∀ g v, GivesTo X [arg] name (defScope st) g v (defBody st) arg (X.env.qual ++ "<lambda>") TT) (free : LamS X.env.scope ls) (plain : defaultsOf ps X.env = ([], [])) (none0 : ∀ (n : Str) (cells : List (Str × Addr)) (v1 v2 v3 : Value), bindArgs (PySem.W.kla_fn "<lambda>" n ps what ls cells v1 v2 v3) ⟨[], []⟩ = pure [])
    (inner : ∀ (A1 : Around) (envs : List Env) (sh : Shared) (G : Hp) (EE : XK) (l1 l2 : Addr), Room m (A1.deeper (lamEnv X ls sh.heap.objs.size l1 l2)) → PE (lamCx X A1 envs sh G EE ls l1 l2) what (tw EE))
    (n1 : (name == ("__debug__" : Str)) = false := by decide) (n2 : (arg == ("__debug__" : Str)) = false := by decide) (n3 : (arg == ("__classdict__" : Str)) = false := by decide) : PE X (.Call (.Name name q1) [.Lambda ps what ls q2] [] q3) (tLam tbs TT tw) := by
  obtain ⟨g, fd, F, hm, hk⟩ := D.ex
  obtain ⟨⟨oc, od, kV, doc, pm, an, cdv, ct, osl, rfl, lk, hc⟩, _⟩ := F
  exact pe_lamcall glob hm hk lk hc (Binds.all (bnd _ _ _ _ _ _)) scp rfl vis (gives g cdv) W.tab W.code W.mem W.only room free plain none0 inner n1 n2 n3
end
end DR
/-! ### a list that grows while a road changes -/
namespace DR
open PySem PySem.Spec PyProof.Rows L2 TL
section
variable {K : PySem.W.Frag} {C p c N r D T W : Addr} {n : Nat} {M : Addr → Prop} {H H' : Hp} {ns : List Str} {q : Int} {as bs : List Act} {ys zs : List V}
theorem L98.grow (L : L98 K C p c n M H N ns r D T q as bs) (nW : H W = none) : L98 K C p c n (MAdd M W W) (upd H W (.lst [])) N ns r D T q as bs := by
  have s := same_new nW (o := HO.lst [])
  obtain ⟨_, _, _, hp, hc, _⟩ := L.pen.ex
  obtain ⟨n1, n2⟩ := erM_at L.nm
  refine ⟨L.pen.same s, L.road.wide s nW nW, ⟨.inl L.mok.pen, fun b hb => ?_, ⟨_, s _ _ hp⟩⟩, erM_of (fun z => ?_) (s _ _ n2), fun z => ?_⟩
  · rcases hb with h | rfl | rfl
    · exact (L.mok.lists b h).imp id fun ⟨xs, e⟩ => ⟨xs, s _ _ e⟩
    · exact .inr ⟨_, upd_same⟩
    · exact .inr ⟨_, upd_same⟩
  · rcases z with z | z | z
    · exact n1 z
    · exact ne_of_none n2 nW z
    · exact ne_of_none n2 nW z
  · rcases z with z | z | z
    · exact L.cell z
    · exact ne_of_none hc nW z
    · exact ne_of_none hc nW z
theorem L98.put (L : L98 K C p c n M H N ns r D T q as bs) (mW : M W) (hW : H W = some (.lst ys)) (nD : W ≠ D) (nT : W ≠ T) : L98 K C p c n M (upd H W (.lst zs)) N ns r D T q as bs := by
  obtain ⟨ms, u, l, hp, hc, h0, h1⟩ := L.pen.ex
  have k : Kst M H (upd H W (.lst zs)) := fun b o nb e => (upd_ne fun z => nb (by rw [z]; exact mW)).trans e
  have Wp : p ≠ W := fun z => by
    rw [← z, hp] at hW
    cases hW
  have Wc : c ≠ W := fun z => L.cell (by rw [z]; exact mW)
  refine ⟨⟨ms, u, l, (upd_ne Wp).trans hp, (upd_ne Wc).trans hc, h0, h1⟩, L.road.keep k (upd_ne nD.symm) (upd_ne nT.symm), ⟨L.mok.pen, fun b hb => ?_, ⟨_, (upd_ne Wp).trans hp⟩⟩, k.er _ _ L.nm, L.cell⟩
  by_cases z : b = W
  · exact .inr ⟨zs, by rw [z]; exact upd_same⟩
  · exact (L.mok.lists b hb).imp id fun ⟨xs, e⟩ => ⟨xs, (upd_ne z).trans e⟩
theorem erM_wide {W W2 : Addr} {M : Addr → Prop} {H : Hp} : Same (erM (MAdd M W W2) H) (erM M H) := fun b o e => by
  obtain ⟨e1, e2⟩ := erM_at e
  exact erM_of (fun z => e1 (.inl z)) e2
theorem RoadAt.narrow {W2 : Addr} (R : RoadAt K C (MAdd M W W2) H r D T q as bs) (mD : M D) (mT : M T) : RoadAt K C M H r D T q as bs := by
  obtain ⟨xs, e1, a1⟩ := R.dn
  obtain ⟨zs, e2, a2⟩ := R.tb
  exact ⟨R.ob, ⟨xs, e1, a1.same erM_wide⟩, ⟨zs, e2, a2.same erM_wide⟩, mD, mT, fun z => R.nr (.inl z), R.ne, R.fewA, R.fewB, R.lg⟩
theorem L98.narrow {W2 : Addr} (L : L98 K C p c n (MAdd M W W2) H N ns r D T q as bs) (mp : M p) (mD : M D) (mT : M T) : L98 K C p c n M H N ns r D T q as bs :=
  ⟨L.pen, L.road.narrow mD mT, ⟨mp, fun b hb => L.mok.lists b (.inl hb), L.mok.dict⟩, erM_wide _ _ L.nm, fun z => L.cell (.inl z)⟩
theorem HisAt.load {D2 T2 S : Addr} (h : HisAt K M H S ys as) (s : Same H H') (nD : H D2 = none) (nT : H T2 = none) : HisAt K (MAdd M D2 T2) H' S ys as := by
  have up : Same (erM M H) (erM (MAdd M D2 T2) H') := fun b o e => by
    obtain ⟨e1, e2⟩ := erM_at e
    refine erM_of (fun z => ?_) (s _ _ e2)
    rcases z with z | z | z
    · exact e1 z
    · exact ne_of_none e2 nD z
    · exact ne_of_none e2 nT z
  exact ⟨up _ _ h.ls, h.acts.same up⟩
theorem data_out {v : V} {d : PyData} {B : Addr} (m : MOk M p H) (hB : H B = some (.lst ys)) (s : Same H H') (h : Dp K (er H H') v d) : Dp K (erM M (er1 B H')) v d := by
  have m2 : MOk (MAdd M B B) p H := ⟨.inl m.pen, fun b z => by
    rcases z with z | rfl | rfl
    · exact m.lists b z
    · exact .inr ⟨_, hB⟩
    · exact .inr ⟨_, hB⟩, m.dict⟩
  obtain ⟨kvs, hp⟩ := (m2.same s).dict
  exact Dp.same (fun b o e => by
    obtain ⟨e1, e2⟩ := erM_at e
    exact erM_of (fun z => e1 (.inl z)) (er1_of (fun z => e1 (.inr (.inl z))) e2)) (MOk.data m2 hp h)
theorem acts_told {as : List Act} {H : Hp} {M : Addr → Prop} (l : ys.length = as.length) (h : ∀ (m : Nat) (y : V), ys[m]? = some y → ∃ a, as[m]? = some a ∧ ActV K (erM M H) y (lsA a)) : ActVs K (erM M H) ys (as.map lsA) := by
  induction ys generalizing as with
  | nil =>
    cases as with
    | nil => exact .nil
    | cons a r => cases l
  | cons y r ih =>
    cases as with
    | nil => cases l
    | cons a s =>
      obtain ⟨b, hb, hv⟩ := h 0 y rfl
      cases hb
      exact .cons hv (ih (by simpa using l) fun m z e => h (m + 1) z e)
theorem L98b.more {r2 D2 T2 r3 D3 T3 : Addr} {cs es gs fs : List Act} (L : L98b K C p c n M H N ns r D T q as bs r2 D2 T2 cs es) (s : Same H H') (nD : H D3 = none) (nT : H T3 = none) (mok : MOk (MAdd M D3 T3) p H') (R3 : RoadAt K C (MAdd M D3 T3) H' r3 D3 T3 q gs fs) :
    L98b K C p c n (MAdd M D3 T3) H' N ns r D T q as bs r2 D2 T2 cs es ∧ D3 ≠ D2 ∧ D3 ≠ T2 ∧ T3 ≠ D2 ∧ T3 ≠ T2 := by
  obtain ⟨_, e1, _⟩ := L.two.dn
  obtain ⟨_, e2, _⟩ := L.two.tb
  exact ⟨⟨(L.l.load s nD nT mok R3).l, L.two.wide s nD nT, L.ap⟩, (ne_of_none e1 nD).symm, (ne_of_none e2 nD).symm, (ne_of_none e1 nT).symm, (ne_of_none e2 nT).symm⟩
theorem sv_none (q : Int) : svT q [] = prL q := ext_tl (by unfold svT; rfl)
theorem keep_one {D2 T2 B : Addr} {as : List Act} {M : Addr → Prop} (k : Kst (Own2 D2 T2) H H') (h : ∃ xs, H B = some (.lst xs) ∧ ActVs K (erM M H) xs as) (n1 : B ≠ D2) (n2 : B ≠ T2) : H' B = H B := by
  obtain ⟨xs, e, _⟩ := h
  rw [e]
  exact k _ _ (fun z => z.elim n1 n2) e
theorem acts_out {G : Addr} (m : MOk M p H) (s : Same H H') : ∀ {xs : List V} {cs : List Act}, ActVs K (er1 G (er H H')) xs cs → ActVs K (erM M H') xs cs
  | _, _, .nil => .nil
  | _, _, .cons h t => .cons (m.act s (h.same fun b o e => (er1_at e).2)) (acts_out m s t)
end
end DR
namespace DR
open PySem PySem.Spec PyProof.Rows L2
def topS (i : Nat) : Stmt := PySem.Challenge.pw_dialroad_k96_roads_saved_and_loaded.main.body.getD i (.Pass ⟨0, 0, 0, 0⟩)
abbrev s_InvalidText___init__ : Stmt := inClass (topS 2) 0
abbrev s_is_whole : Stmt := topS 12
abbrev s_is_count : Stmt := topS 18
abbrev s_is_step_or_turn : Stmt := topS 19
abbrev s_begins_as_repeat : Stmt := topS 20
abbrev s_sizes_of : Stmt := topS 21
abbrev s_is_program : Stmt := topS 22
abbrev s_copied : Stmt := topS 23
abbrev s_with_lists : Stmt := topS 24
abbrev s_tokens_of : Stmt := topS 28
abbrev s_format_program : Stmt := topS 29
abbrev s_count_of : Stmt := topS 30
abbrev s_Reader___init__ : Stmt := inClass (topS 31) 0
abbrev s_Reader_has_ended : Stmt := inClass (topS 31) 1
abbrev s_Reader_token : Stmt := inClass (topS 31) 2
abbrev s_Reader_read_word : Stmt := inClass (topS 31) 3
abbrev s_Reader_read_count : Stmt := inClass (topS 31) 4
abbrev s_Reader_read_bracket : Stmt := inClass (topS 31) 5
abbrev s_Reader_read_instruction : Stmt := inClass (topS 31) 6
abbrev s_parse_program : Stmt := topS 32
abbrev s_is_name : Stmt := topS 36
abbrev s_copied_action : Stmt := topS 37
abbrev s_plain_action : Stmt := topS 38
abbrev s_Road___init__ : Stmt := inClass (topS 39) 0
abbrev s_Road___eq__ : Stmt := inClass (topS 39) 1
abbrev s_Road_perform : Stmt := inClass (topS 39) 2
abbrev s_Road_has_walker : Stmt := inClass (topS 39) 3
abbrev s_Road_enter : Stmt := inClass (topS 39) 4
abbrev s_Road_run : Stmt := inClass (topS 39) 5
abbrev s_Road_undo : Stmt := inClass (topS 39) 6
abbrev s_Road_redo : Stmt := inClass (topS 39) 7
abbrev s_Road_actions : Stmt := inClass (topS 39) 8
abbrev s_line_of : Stmt := topS 42
abbrev s_save : Stmt := topS 43
abbrev s_new_road : Stmt := topS 44
abbrev s_read_line : Stmt := topS 45
abbrev s_load : Stmt := topS 46
abbrev s__law_pen : Stmt := topS 48
abbrev s__law_draw : Stmt := topS 49
abbrev s__law_pick : Stmt := topS 50
abbrev s__law_prime : Stmt := topS 51
abbrev s__law_integer : Stmt := topS 52
abbrev s__law_word : Stmt := topS 53
abbrev s__law_body : Stmt := topS 54
abbrev s__law_calls : Stmt := topS 55
abbrev s__law_small_program : Stmt := topS 56
abbrev s__law_deep_program : Stmt := topS 57
abbrev s__law_history : Stmt := topS 58
abbrev s__law_act : Stmt := topS 59
abbrev s__law_plain_program : Stmt := topS 60
abbrev s__law_program_text : Stmt := topS 61
abbrev s__law_road_text : Stmt := topS 62
abbrev s__law_is_empty : Stmt := topS 63
abbrev s_law : Stmt := topS 64
/-- the built-in names that the texts use are still the built-in ones -/
structure Blt (mg : Str → Option Value) : Prop where
  tuple : mg "tuple" = none
  sorted : mg "sorted" = none
  range : mg "range" = none
  list : mg "list" = none
  len : mg "len" = none
  abs : mg "abs" = none
  repr : mg "repr" = none
  int : mg "int" = none
  bool : mg "bool" = none
  dict : mg "dict" = none
  min : mg "min" = none
  max : mg "max" = none
  zip : mg "zip" = none
  all : mg "all" = none
  isinstance : mg "isinstance" = none
  sum : mg "sum" = none
  any : mg "any" = none
  str : mg "str" = none
  set : mg "set" = none
  reversed : mg "reversed" = none
  enumerate : mg "enumerate" = none
section
variable {P : Program} {w : World} {K : PySem.W.Frag} {mg : Str → Option Value} {base : Heap}
theorem sc_Reader___init__ : FnScope ["self", "tokens"] ["self", "tokens"] (defScope s_Reader___init__) := ⟨rfl, rfl, rfl, by decide +kernel, rfl, by decide +kernel, by decide +kernel⟩
theorem ok_Reader___init__ {f C : Addr} {fd : FuncData} (F : Fun K "__init__" "Reader.__init__" s_Reader___init__ f fd) (T : ClR K mg C) : FnOk P w K mg base CX0 1 f fd ["self", "tokens"] (sp_reader C) := by
  refine F.ok sc_Reader___init__ (fun vs H Q E h => ?_) (fun cdv A outer s H vs Q E hr h => ?_)
  · obtain ⟨p, dx, a, rfl, _⟩ := h
    rfl
  · obtain ⟨p, dx, a, rfl, hp, k⟩ := h
    refine ⟨_, (pss_cons (ps_fld (pv 0) (pv 1) rfl)
    (pss_cons (ps_fld (pv 0) pe_int rfl)
    (pss_cons (ps_fld (pv 0) pe_int rfl)
    (pss_one (ps_fld (pv 0) pe_int rfl))))), ?_⟩
    refine ⟨_, rfl, _, rfl, p, C, dx, [], rfl, hp, T.cl, T.nt, (by decide : 0 < 1000), ?_⟩
    refine ⟨_, rfl, p, C, dx, _, rfl, upd_same, T.cl, T.na, (by show 1 < 1000; decide), ?_⟩
    refine ⟨_, rfl, p, C, dx, _, rfl, upd_same, T.cl, T.ni, ?_, ?_⟩
    · exact Nat.lt_of_le_of_lt (length_putF _ _ _) (by show 1 + 1 < 1000; decide)
    refine ⟨_, rfl, p, C, dx, _, rfl, upd_same, T.cl, T.nr, ?_, ?_⟩
    · exact Nat.lt_of_le_of_lt (length_putF _ _ _) (Nat.lt_of_le_of_lt (Nat.succ_le_succ (length_putF _ _ _)) (by show 1 + 1 + 1 < 1000; decide))
    refine k _ (fun b o hb e => by rw [upd_ne hb, upd_ne hb, upd_ne hb, upd_ne hb]; exact e) ?_
    rw [upd_same]
    have e : putF "repeats" (.int 0) (putF "instructions" (.int 0) (putF "at" (.int 0) (putF "tokens" (.ref a) []))) = rdF a ⟨0, 0, 0⟩ := by
      show putF "repeats" (.int 0) (putF "instructions" (.int 0) (if ("tokens" : Str) = "at" then _ else [(("tokens" : Str), V.ref a), (("at" : Str), V.int 0)])) = _
      rw [if_neg nmR2.1]
      show putF "repeats" (.int 0) (if ("tokens" : Str) = "instructions" then _ else (("tokens" : Str), V.ref a) :: (if ("at" : Str) = "instructions" then _ else [(("at" : Str), V.int 0), (("instructions" : Str), V.int 0)])) = _
      rw [if_neg nmR2.2.1, if_neg nmR2.2.2.2.1]
      show (if ("tokens" : Str) = "repeats" then _ else (("tokens" : Str), V.ref a) :: (if ("at" : Str) = "repeats" then _ else (("at" : Str), V.int 0) :: (if ("instructions" : Str) = "repeats" then _ else [(("instructions" : Str), V.int 0), (("repeats" : Str), V.int 0)]))) = _
      rw [if_neg nmR2.2.2.1, if_neg nmR2.2.2.2.2.1, if_neg nmR2.2.2.2.2.2]
      rfl
    exact congrArg (fun l => some (HO.ins C dx l)) e
theorem sc_Reader_has_ended : FnScope ["self"] ["self"] (defScope s_Reader_has_ended) := ⟨rfl, rfl, rfl, by decide +kernel, rfl, by decide +kernel, by decide +kernel⟩
theorem ok_Reader_has_ended {f C : Addr} {fd : FuncData} (F : Fun K "has_ended" "Reader.has_ended" s_Reader_has_ended f fd) (B : Blt mg) (T : ClR K mg C) : FnOk P w K mg base CX0 1 f fd ["self"] (sp_has_ended C) := by
  refine F.ok sc_Reader_has_ended (fun vs H Q E h => ?_) (fun cdv A outer s H vs Q E hr h => ?_)
  · obtain ⟨p, a, T, s, rfl, _⟩ := h
    rfl
  · obtain ⟨p, a, U, s, rfl, R, k⟩ := h
    obtain ⟨dx, e⟩ := R.ob
    refine ⟨_, (pss_one (ps_ret (pe_cmpR op_eq (pe_fld (pv 0) rfl) (pe_callB call_len_seq (by rfl) B.len (by decide +kernel) (pa_cons (pe_fld (pv 0) rfl) pa_nil)) (nomark _)))), ?_⟩
    refine ⟨_, rfl, p, C, dx, _, _, rfl, e, T.cl, T.na, rd_at _ _, _, rfl, p, C, dx, _, _, rfl, e, T.cl, T.nt, rd_tokens _ _, a, _, rfl, .inl (SqL.of R.tk), rfl, ?_⟩
    have z : decide (V.int (s.p : Int) = V.int (((U.map V.str).length : Nat) : Int)) = decide (s.p = U.length) := by
      rw [List.length_map, decide_eq_decide]
      exact ⟨fun z => Int.ofNat.inj (V.int.inj z), fun z => by rw [z]⟩
    show Q (V.bl _) H
    rw [z]
    exact k
theorem sc_Reader_token : FnScope ["self"] ["self"] (defScope s_Reader_token) := ⟨rfl, rfl, rfl, by decide +kernel, rfl, by decide +kernel, by decide +kernel⟩
theorem ok_Reader_token {f C CI : Addr} {fd : FuncData} (F : Fun K "token" "Reader.token" s_Reader_token f fd) (B : Blt mg) (T : ClR K mg C) (Z : TxtF P w K mg base CI) (M_has_ended : MetC CX0 P w K mg base C 1 "has_ended" (sp_has_ended C)) : FnOk P w K mg base (L2.CX P w) 3 f fd ["self"] (sp_token C CI) := by
  refine F.okX sc_Reader_token (fun vs H Q E h => ?_) (fun cdv A outer s H vs Q E hr h => ?_)
  · obtain ⟨p, a, T, s, rfl, _⟩ := h
    rfl
  · obtain ⟨p, a, U, s, rfl, R, k, kx⟩ := h
    obtain ⟨dx, e⟩ := R.ob
    have tk := takes_of (X := cxOf (L2.CX P w) P w K mg base ["self"] "Reader.token" (defScope s_Reader_token) f cdv A outer ‹Shared› H E) rfl rfl rfl rfl
    refine ⟨_, (pss_cons (ps_if (pt_val (pe_meth0 (pv 0) T.cl M_has_ended.hm M_has_ended.ok (hr.mono (by decide)) M_has_ended.b .nil (E := E0) pass0))
      (pss_one (ps_raiseF Z rfl tk hr (by decide) (by rfl) (pa_cons (pe_fld (pv 0) rfl) pa_nil)))
      pss_nil)
    (pss_one (ps_ret (pe_ix ix_list (pe_fld (pv 0) rfl) (pe_fld (pv 0) rfl) (fun _ _ => rfl))))), ?_⟩
    refine ⟨_, rfl, p, dx, _, rfl, e, rd_no _ _ (by decide +kernel), p, a, U, s, rfl, R, _, rfl, ?_⟩
    by_cases q : s.p = U.length
    · refine iteS q ?_
      refine ⟨_, rfl, p, C, dx, _, _, rfl, e, T.cl, T.na, rd_at _ _, _, rfl, fun d nd => ?_⟩
      exact kx (List.getElem?_eq_none (Nat.le_of_eq q.symm)) d H (fun _ _ _ z => z) nd
    · refine iteN q ?_
      have lt : s.p < U.length := Nat.lt_of_le_of_ne R.le q
      have g : (U.map V.str)[s.p]? = some (V.str U[s.p]) := by rw [List.getElem?_map, List.getElem?_eq_getElem lt]; rfl
      refine ⟨_, rfl, p, C, dx, _, _, rfl, e, T.cl, T.nt, rd_tokens _ _, _, rfl, p, C, dx, _, _, rfl, e, T.cl, T.na, rd_at _ _, a, _, (s.p : Int), _, rfl, rfl, SqL.of R.tk, atI_nat g, ?_⟩
      exact k _ (List.getElem?_eq_getElem lt)
theorem sc_Reader_read_word : FnScope ["self", "depth", "word"] ["self", "depth"] (defScope s_Reader_read_word) := ⟨rfl, rfl, rfl, by decide +kernel, rfl, by decide +kernel, by decide +kernel⟩
theorem word_in (t : Str) : inV (V.str t) [V.str "step", V.str "turn", V.str "repeat"] = decide (t = "step" ∨ t = "turn" ∨ t = "repeat") := by
  have q : ∀ z : Str, eqV (V.str z) (V.str t) = decide (t = z) := fun z => by
    show (z == t) = _
    rw [Bool.eq_iff_iff, beq_iff_eq, decide_eq_true_iff]
    exact eq_comm
  show (eqV (V.str "step") (V.str t) || (eqV (V.str "turn") (V.str t) || (eqV (V.str "repeat") (V.str t) || false))) = _
  rw [q, q, q, Bool.or_false, Bool.eq_iff_iff]
  simp
theorem ok_Reader_read_word {f C CI : Addr} {fd : FuncData} (F : Fun K "read_word" "Reader.read_word" s_Reader_read_word f fd) (B : Blt mg) (T : ClR K mg C) (Z : TxtF P w K mg base CI) {t1 t2 t3 : Tok} (G_MOST_INSTRUCTIONS : mg "MOST_INSTRUCTIONS" = some (.int 100 t1)) (G_DEEPEST : mg "DEEPEST" = some (.int 2 t2)) (G_MOST_REPEATS : mg "MOST_REPEATS" = some (.int 5 t3))
    (M_token : MetC (L2.CX P w) P w K mg base C 3 "token" (sp_token C CI)) : FnOk P w K mg base (L2.CX P w) 4 f fd ["self", "depth"] (sp_read_word C CI) := by
  refine F.okX sc_Reader_read_word (fun vs H Q E h => ?_) (fun cdv A outer s H vs Q E hr h => ?_)
  · obtain ⟨p, a, T, s, k, rfl, _⟩ := h
    rfl
  · obtain ⟨p, a, U, s, dep, rfl, hdep, R, k, kx⟩ := h
    obtain ⟨dx, e⟩ := R.ob
    have nd := sc_Reader_read_word.nd
    have tk := takes_of (X := cxOf (L2.CX P w) P w K mg base ["self", "depth", "word"] "Reader.read_word" (defScope s_Reader_read_word) f cdv A outer ‹Shared› H E) rfl rfl rfl rfl
    refine ⟨_, (pss_cons (ps_set (i := 2) nd rfl (.inl rfl) (pe_meth0 (pv 0) T.cl M_token.hm M_token.ok (hr.mono (by decide)) M_token.b .nil (passes_call tk (fun _ _ _ _ z => z))))
    (pss_cons (ps_if (PW.pt (pw_or (pt_cmpR op_notIn_seq (pv 2) (pe_tup (pa_cons pe_str (pa_cons pe_str (pa_cons pe_str pa_nil)))) rfl) (pw_or1 (pt_cmpR op_eq (pe_fld (pv 0) rfl) (pe_glob (v := .int 100) rfl G_MOST_INSTRUCTIONS ⟨_, rfl⟩) (nomark _)))))
      (pss_one (ps_raiseF Z rfl tk hr (by decide) (by rfl) (pa_cons (pe_fld (pv 0) rfl) pa_nil)))
      pss_nil)
    (pss_cons (ps_cut (ps_if (pt_cmpR op_eq (pv 2) pe_str (nomark _))
      (pss_cons (ps_if (PW.pt (pw_or (pt_cmpR op_eq (pv 1) (pe_glob (v := .int 2) rfl G_DEEPEST ⟨_, rfl⟩) (nomark _)) (pw_or1 (pt_cmpR op_eq (pe_fld (pv 0) rfl) (pe_glob (v := .int 5) rfl G_MOST_REPEATS ⟨_, rfl⟩) (nomark _)))))
      (pss_one (ps_raiseF Z rfl tk hr (by decide) (by rfl) (pa_cons (pe_fld (pv 0) rfl) pa_nil)))
      pss_nil)
    (pss_one (ps_fldaug (pv 0) pe_int in_add)))
      pss_nil))
    (pss_cons (ps_fldaug (pv 0) pe_int in_add)
    (pss_cons (ps_fldaug (pv 0) pe_int in_add)
    (pss_one (ps_ret (pv 2)))))))), ?_⟩
    refine ⟨_, rfl, p, dx, _, rfl, e, rd_no _ _ (by decide +kernel), p, a, U, s, rfl, R, fun t ht => ?_, fun hn => ?_⟩
    rotate_left
    · exact kx s.p (by unfold rdW; rw [hn])
    have rd : rdW U dep s = (if ¬ (t = "step" ∨ t = "turn" ∨ t = "repeat") ∨ s.n = 100 then .bad s.p else
      if t = "repeat" ∧ (dep = 0 ∨ s.r = 5) then .bad s.p else .ok t ⟨s.p + 1, s.n + 1, if t = "repeat" then s.r + 1 else s.r⟩) := by
      unfold rdW
      rw [ht] <;> rfl
    refine ⟨_, rfl, sl_of (show 3 ≤ 1000000 by decide), fun tp ntp => ?_⟩
    have s1 := same_new ntp (o := HO.tup [V.str "step", V.str "turn", V.str "repeat"])
    have e1 := s1 _ _ e
    have R1 := R.same s1
    refine ⟨tp, _, rfl, .inr (SqT.of upd_same), rfl, rfl, _, rfl, ?_⟩
    rw [word_in]
    have bad : rdW U dep s = .bad s.p → ∀ d H', Kp p H H' → H' d = none → E (.ref CI) (some d) (upd H' d (.xd [("position", .int (s.p : Int))])) := fun z => kx _ z
    by_cases hw : t = "step" ∨ t = "turn" ∨ t = "repeat"
    rotate_left
    · rw [decide_eq_false hw]
      refine iteT (iteT ?_)
      refine ⟨_, rfl, p, C, dx, _, _, rfl, e1, T.cl, T.na, rd_at _ _, _, rfl, fun d nd => ?_⟩
      exact bad (by rw [rd, if_pos (.inl hw)]) d _ (Same.kp s1) nd
    rw [decide_eq_true hw]
    refine iteF ?_
    refine ⟨_, rfl, p, C, dx, _, _, rfl, e1, T.cl, T.ni, rd_instructions _ _, rfl, _, rfl, ?_⟩
    by_cases hn : s.n = 100
    · refine iteS (by rw [hn]; rfl) ?_
      refine ⟨_, rfl, p, C, dx, _, _, rfl, e1, T.cl, T.na, rd_at _ _, _, rfl, fun d nd => ?_⟩
      exact bad (by rw [rd, if_pos (.inr hn)]) d _ (Same.kp s1) nd
    refine iteN (fun z => hn (Int.ofNat.inj (V.int.inj z))) ?_
    have g1 : ¬ (¬ (t = "step" ∨ t = "turn" ∨ t = "repeat") ∨ s.n = 100) := fun z => z.elim (fun y => y hw) hn
    rw [if_neg g1] at rd
    refine ⟨fun σ' H' => ∃ r', σ' = [some (.ref p), some (.int (2 - (dep : Int))), some (.str t)] ∧ Kp p H H' ∧ H' p = some (.ins C dx (rdF a ⟨s.p, s.n, r'⟩)) ∧ H' a = some (.lst (U.map V.str)) ∧ rdW U dep s = .ok t ⟨s.p + 1, s.n + 1, r'⟩, ?_, ?_⟩
    · refine ⟨_, rfl, rfl, _, rfl, ?_⟩
      by_cases hr : t = "repeat"
      · refine iteS (by rw [hr]) ?_
        refine ⟨_, rfl, rfl, _, rfl, ?_⟩
        by_cases hd0 : dep = 0
        · refine iteS (by rw [hd0]; rfl) (iteT ?_)
          refine ⟨_, rfl, p, C, dx, _, _, rfl, e1, T.cl, T.na, rd_at _ _, _, rfl, fun d nd => ?_⟩
          exact bad (by rw [rd, if_pos ⟨hr, .inl hd0⟩]) d _ (Same.kp s1) nd
        refine iteN (fun z => hd0 (by have := V.int.inj z; omega)) ?_
        refine ⟨_, rfl, p, C, dx, _, _, rfl, e1, T.cl, T.nr, rd_repeats _ _, rfl, _, rfl, ?_⟩
        by_cases hr5 : s.r = 5
        · refine iteS (by rw [hr5]; rfl) ?_
          refine ⟨_, rfl, p, C, dx, _, _, rfl, e1, T.cl, T.na, rd_at _ _, _, rfl, fun d nd => ?_⟩
          exact bad (by rw [rd, if_pos ⟨hr, .inr hr5⟩]) d _ (Same.kp s1) nd
        refine iteN (fun z => hr5 (by have := V.int.inj z; omega)) ?_
        refine ⟨_, rfl, p, C, dx, _, _, rfl, e1, T.cl, T.nr, rd_repeats _ _, _, _, rfl, rfl, _, _, e1, (by show 4 < 1000; decide), ?_⟩
        refine ⟨s.r + 1, rfl, fun b o hb z => by rw [upd_ne hb]; exact s1 _ _ z, ?_, ?_, ?_⟩
        · rw [upd_same]
          exact congrArg (fun l => some (HO.ins C dx l)) (rd_put_r a s (s.r + 1))
        · rw [upd_ne R.ne.symm]
          exact s1 _ _ R.tk
        · rw [rd, if_neg (fun z => z.2.elim hd0 hr5), if_pos hr]
      · refine iteN (fun z => hr (V.str.inj z)) ?_
        refine ⟨s.r, rfl, fun b o hb z => s1 _ _ z, e1, s1 _ _ R.tk, ?_⟩
        rw [rd, if_neg (fun z => hr z.1), if_neg hr]
    · rintro σ' H' ⟨r', rfl, k2, e2, eT, rd2⟩
      refine ⟨_, rfl, p, C, dx, _, _, rfl, e2, T.cl, T.ni, rd_instructions _ _, _, _, rfl, rfl, _, _, e2, (by show 4 < 1000; decide), ?_⟩
      have hat : (putF "instructions" (V.int ((s.n : Int) + 1)) (rdF a ⟨s.p, s.n, r'⟩)).lookup ("at" : Str) = some (.int (s.p : Int)) := (congrArg (List.lookup ("at" : Str)) (rd_put_n a ⟨s.p, s.n, r'⟩ (s.n + 1))).trans (rd_at _ _)
      have hlen : (putF "instructions" (V.int ((s.n : Int) + 1)) (rdF a ⟨s.p, s.n, r'⟩)).length < 1000 := Nat.lt_of_le_of_lt (length_putF _ _ _) (by show 5 < 1000; decide)
      refine ⟨_, rfl, p, C, dx, _, _, rfl, upd_same, T.cl, T.na, hat, _, _, rfl, rfl, _, _, upd_same, hlen, ?_⟩
      refine ⟨_, rfl, k t ⟨s.p + 1, s.n + 1, r'⟩ _ rd2 (fun b o hb z => by rw [upd_ne hb, upd_ne hb]; exact k2 b o hb z) ?_⟩
      refine ⟨⟨dx, ?_⟩, ?_, ?_, ?_, R.big⟩
      · rw [upd_same]
        have z1 : putF "instructions" (.int ((s.n : Int) + 1)) (rdF a ⟨s.p, s.n, r'⟩) = rdF a ⟨s.p, s.n + 1, r'⟩ := rd_put_n a ⟨s.p, s.n, r'⟩ (s.n + 1)
        have z2 : putF "at" (.int ((s.p : Int) + 1)) (rdF a ⟨s.p, s.n + 1, r'⟩) = rdF a ⟨s.p + 1, s.n + 1, r'⟩ := rd_put_at a ⟨s.p, s.n + 1, r'⟩ (s.p + 1)
        exact congrArg (fun l => some (HO.ins C dx l)) ((congrArg (putF "at" (.int ((s.p : Int) + 1))) z1).trans z2)
      · rw [upd_ne R.ne.symm, upd_ne R.ne.symm]
        exact eT
      · exact (List.getElem?_eq_some_iff.mp ht).1
      · have := R.few
        show s.n + 1 ≤ 100
        omega
theorem sc_Reader_read_count : FnScope ["self", "least", "count"] ["self", "least"] (defScope s_Reader_read_count) := ⟨rfl, rfl, rfl, by decide +kernel, rfl, by decide +kernel, by decide +kernel⟩
/-- the reader goes on by one token -/
theorem Rdr.on {C p a dx : Addr} {H : Hp} {U : List Str} {s : RS} (R : Rdr C H p a U s) (e : H p = some (.ins C dx (rdF a s))) (lt : s.p < U.length) : Rdr C (upd H p (.ins C dx (putF "at" (.int ((s.p : Int) + 1)) (rdF a s)))) p a U ⟨s.p + 1, s.n, s.r⟩ := by
  refine ⟨⟨dx, ?_⟩, ?_, lt, R.few, R.big⟩
  · rw [upd_same]
    exact congrArg (fun l => some (HO.ins C dx l)) (rd_put_at a s (s.p + 1))
  · rw [upd_ne R.ne.symm]
    exact R.tk
theorem kp_upd {p : Addr} {H : Hp} {o : HO} : Kp p H (upd H p o) := fun b o hb z => by
  rw [upd_ne hb]
  exact z
theorem ok_Reader_read_count {f C CI : Addr} {fd : FuncData} (F : Fun K "read_count" "Reader.read_count" s_Reader_read_count f fd) (B : Blt mg) (T : ClR K mg C) (Z : TxtF P w K mg base CI)
    (M_token : MetC (L2.CX P w) P w K mg base C 3 "token" (sp_token C CI)) (C_count_of : Cal P w K mg base 3 "count_of" sp_count_of) : FnOk P w K mg base (L2.CX P w) 4 f fd ["self", "least"] (sp_read_count C CI) := by
  refine F.okX sc_Reader_read_count (fun vs H Q E h => ?_) (fun cdv A outer s H vs Q E hr h => ?_)
  · obtain ⟨p, a, T, s, m, rfl, _⟩ := h
    rfl
  · obtain ⟨p, a, U, s, m, rfl, R, hsh, k, kx⟩ := h
    obtain ⟨dx, e⟩ := R.ob
    have nd := sc_Reader_read_count.nd
    have tk := takes_of (X := cxOf (L2.CX P w) P w K mg base ["self", "least", "count"] "Reader.read_count" (defScope s_Reader_read_count) f cdv A outer ‹Shared› H E) rfl rfl rfl rfl
    refine ⟨_, (pss_cons (ps_set (i := 2) nd rfl (.inl rfl) (pe_c C_count_of hr (by decide) (by rfl) (pa_cons (pe_meth0 (pv 0) T.cl M_token.hm M_token.ok (hr.mono (by decide)) M_token.b .nil (passes_call tk (fun _ _ _ _ z => z))) pa_nil)))
    (pss_cons (ps_if (PW.pt (pw_or (pt_cmpR op_isN (pv 2) pe_non (nomark _)) (pw_or1 (pt_cmpR op_lt (pv 2) (pv 1) (nomark _)))))
      (pss_one (ps_raiseF Z rfl tk hr (by decide) (by rfl) (pa_cons (pe_fld (pv 0) rfl) pa_nil)))
      pss_nil)
    (pss_cons (ps_fldaug (pv 0) pe_int in_add)
    (pss_one (ps_ret (pv 2)))))), ?_⟩
    refine ⟨_, rfl, p, dx, _, rfl, e, rd_no _ _ (by decide +kernel), p, a, U, s, rfl, R, fun t ht => ?_, fun hn => ?_⟩
    rotate_left
    · exact kx s.p (by unfold rdC; rw [hn])
    have lt := (List.getElem?_eq_some_iff.mp ht).1
    refine ⟨t, rfl, hsh t (List.mem_of_getElem? ht), fun H1 s1 => ?_⟩
    have R1 := R.same s1
    have e1 := s1 _ _ e
    have rd : rdC U m s = (match ctOf t with | none => .bad s.p | some c => if c < m then .bad s.p else .ok c ⟨s.p + 1, s.n, s.r⟩) := by
      unfold rdC
      rw [ht] <;> rfl
    have no : rdC U m s = .bad s.p → _ := fun z => kx _ z
    cases ec : ctOf t with
    | none =>
      rw [ec] at rd
      refine ⟨_, rfl, rfl, _, rfl, iteS rfl (iteT ?_)⟩
      refine ⟨_, rfl, p, C, dx, _, _, rfl, e1, T.cl, T.na, rd_at _ _, _, rfl, fun d nd => ?_⟩
      exact no rd d _ (Same.kp s1) nd
    | some c =>
      rw [ec] at rd
      dsimp only at rd
      refine ⟨_, rfl, rfl, _, rfl, iteN (by intro z; cases z) ?_⟩
      refine ⟨_, rfl, _, rfl, _, _, rfl, rfl, _, rfl, ite2 (fun low => ?_) fun high => ?_⟩
      · refine ⟨_, rfl, p, C, dx, _, _, rfl, e1, T.cl, T.na, rd_at _ _, _, rfl, fun d nd => ?_⟩
        rw [if_pos (of_decide_eq_true low)] at rd
        exact no rd d _ (Same.kp s1) nd
      · rw [if_neg (fun z => high (decide_eq_true z))] at rd
        refine ⟨_, rfl, p, C, dx, _, _, rfl, e1, T.cl, T.na, rd_at _ _, _, _, rfl, rfl, _, _, e1, (by show 4 < 1000; decide), ?_⟩
        exact ⟨_, rfl, k c _ _ rd ((Same.kp s1).trans kp_upd) (R1.on e1 lt)⟩
theorem sc_Reader_read_bracket : FnScope ["self"] ["self"] (defScope s_Reader_read_bracket) := ⟨rfl, rfl, rfl, by decide +kernel, rfl, by decide +kernel, by decide +kernel⟩
theorem ok_Reader_read_bracket {f C CI : Addr} {fd : FuncData} (F : Fun K "read_bracket" "Reader.read_bracket" s_Reader_read_bracket f fd) (B : Blt mg) (T : ClR K mg C) (Z : TxtF P w K mg base CI)
    (M_token : MetC (L2.CX P w) P w K mg base C 3 "token" (sp_token C CI)) : FnOk P w K mg base (L2.CX P w) 4 f fd ["self"] (sp_read_bracket C CI) := by
  refine F.okX sc_Reader_read_bracket (fun vs H Q E h => ?_) (fun cdv A outer s H vs Q E hr h => ?_)
  · obtain ⟨p, a, T, s, rfl, _⟩ := h
    rfl
  · obtain ⟨p, a, U, s, rfl, R, k, kx⟩ := h
    obtain ⟨dx, e⟩ := R.ob
    have tk := takes_of (X := cxOf (L2.CX P w) P w K mg base ["self"] "Reader.read_bracket" (defScope s_Reader_read_bracket) f cdv A outer ‹Shared› H E) rfl rfl rfl rfl
    refine ⟨_, (pss_cons (ps_if (pt_cmpR op_ne (pe_meth0 (pv 0) T.cl M_token.hm M_token.ok (hr.mono (by decide)) M_token.b .nil (passes_call tk (fun _ _ _ _ z => z))) pe_str (nomark _))
      (pss_one (ps_raiseF Z rfl tk hr (by decide) (by rfl) (pa_cons (pe_fld (pv 0) rfl) pa_nil)))
      pss_nil)
    (pss_one (ps_fldaug (pv 0) pe_int in_add))), ?_⟩
    refine ⟨_, rfl, p, dx, _, rfl, e, rd_no _ _ (by decide +kernel), p, a, U, s, rfl, R, fun t ht => ?_, fun hn => ?_⟩
    rotate_left
    · exact kx s.p (by unfold rdB; rw [hn])
    have lt := (List.getElem?_eq_some_iff.mp ht).1
    have rd : rdB U s = (if t = "[" then .ok () ⟨s.p + 1, s.n, s.r⟩ else .bad s.p) := by
      unfold rdB
      rw [ht] <;> rfl
    refine ⟨rfl, _, rfl, ?_⟩
    by_cases q : t = "["
    · refine iteNS (by rw [q]) ?_
      rw [if_pos q] at rd
      refine ⟨_, rfl, p, C, dx, _, _, rfl, e, T.cl, T.na, rd_at _ _, _, _, rfl, rfl, _, _, e, (by show 4 < 1000; decide), ?_⟩
      exact k _ _ _ rd kp_upd (R.on e lt)
    · refine iteNN (fun z => q (V.str.inj z)) ?_
      rw [if_neg q] at rd
      refine ⟨_, rfl, p, C, dx, _, _, rfl, e, T.cl, T.na, rd_at _ _, _, rfl, fun d nd => ?_⟩
      exact kx _ rd d _ (Kp.refl _ _) nd
theorem sc_Reader_read_instruction : FnScope ["self", "depth", "word", "count", "inner"] ["self", "depth"] (defScope s_Reader_read_instruction) := ⟨rfl, rfl, rfl, by decide +kernel, rfl, by decide +kernel, by decide +kernel⟩
theorem ok_Reader_read_instruction (k : Nat) {C CI : Addr} (M_read_instruction : MetC (L2.CX P w) P w K mg base C (k + 5) "read_instruction" (sp_read_instruction K C CI k)) {f : Addr} {fd : FuncData} (F : Fun K "read_instruction" "Reader.read_instruction" s_Reader_read_instruction f fd) (B : Blt mg) (T : ClR K mg C) (Z : TxtF P w K mg base CI)
    {tl : Tok} (G_GREATEST_COUNT : mg "GREATEST_COUNT" = some (.int 1000000000000000000000000000000 tl)) (M_token : MetC (L2.CX P w) P w K mg base C 3 "token" (sp_token C CI)) (M_read_word : MetC (L2.CX P w) P w K mg base C 4 "read_word" (sp_read_word C CI)) (M_read_count : MetC (L2.CX P w) P w K mg base C 4 "read_count" (sp_read_count C CI)) (M_read_bracket : MetC (L2.CX P w) P w K mg base C 4 "read_bracket" (sp_read_bracket C CI)) :
    FnOk P w K mg base (L2.CX P w) (k + 5 + 1) f fd ["self", "depth"] (sp_read_instruction K C CI (k + 1)) := by
  refine F.okX sc_Reader_read_instruction (fun vs H Q E h => ?_) (fun cdv A outer s H vs Q E hr h => ?_)
  · obtain ⟨p, a, T, s, rfl, _⟩ := h
    rfl
  · obtain ⟨p, a, U, s, rfl, _, hk, R, hsh, q, qx⟩ := h
    obtain ⟨dx, e⟩ := R.ob
    have nd := sc_Reader_read_instruction.nd
    have tk := takes_of (X := cxOf (L2.CX P w) P w K mg base ["self", "depth", "word", "count", "inner"] "Reader.read_instruction" (defScope s_Reader_read_instruction) f cdv A outer ‹Shared› H E) rfl rfl rfl rfl
    refine ⟨_, (pss_cons (ps_set (i := 2) nd rfl (.inl rfl) (pe_meth (pv 0) T.cl M_read_word.hm M_read_word.ok (hr.mono (by omega)) M_read_word.b .nil (passes_call tk (fun _ _ _ _ z => z)) (pa_cons (pv 1) pa_nil)))
    (pss_cons (ps_if (pt_cmpR op_ne (pv 2) pe_str (nomark _))
      (pss_one (ps_ret (pe_tup (pa_cons (pv 2) (pa_cons (pe_meth (pv 0) T.cl M_read_count.hm M_read_count.ok (hr.mono (by omega)) M_read_count.b .nil (passes_call tk (fun _ _ _ _ z => z)) (pa_cons (pe_un un_neg (pe_glob (v := .int 1000000000000000000000000000000) rfl G_GREATEST_COUNT ⟨_, rfl⟩)) pa_nil)) pa_nil)))))
      pss_nil)
    (pss_cons (ps_set (i := 3) nd rfl (.inl rfl) (pe_meth (pv 0) T.cl M_read_count.hm M_read_count.ok (hr.mono (by omega)) M_read_count.b .nil (passes_call tk (fun _ _ _ _ z => z)) (pa_cons pe_int pa_nil)))
    (pss_cons (ps_expr (pe_meth0 (pv 0) T.cl M_read_bracket.hm M_read_bracket.ok (hr.mono (by omega)) M_read_bracket.b .nil (passes_call tk (fun _ _ _ _ z => z))))
    (pss_cons (ps_set (i := 4) nd rfl (.inl rfl) (pe_lst pa_nil))
    (pss_cons (ps_while (passes_of rfl) (pt_cmpR op_ne (pe_meth0 (pv 0) T.cl M_token.hm M_token.ok (hr.mono (by omega)) M_token.b .nil (passes_call tk (fun _ _ _ _ z => z))) pe_str (nomark _))
      (pss_one (ps_expr (pe_bm PySem.F.plainAttrs_list PySem.F.slot_list_append PySem.F.type_list_append mt_append (pv 4) (pa_cons (pe_meth (pv 0) T.cl M_read_instruction.hm M_read_instruction.ok (hr.mono (by omega)) M_read_instruction.b .nil (passes_call tk (fun _ _ _ _ z => z)) (pa_cons (pe_op op_add (pv 1) pe_int) pa_nil)) pa_nil)))))
    (pss_cons (ps_fldaug (pv 0) pe_int in_add)
    (pss_one (ps_ret (pe_tup (pa_cons (pv 2) (pa_cons (pv 3) (pa_cons (pv 4) pa_nil))))))))))))), ?_⟩
    have ed : (3 - ((k + 1 : Nat) : Int)) = 2 - (k : Int) := by omega
    have e0 : rdI U (k + 1 - 1) s = rdO U k (inn U k) s := rdI_inn U k s
    rw [e0] at q qx
    rw [ed]
    refine ⟨_, rfl, p, dx, _, rfl, e, rd_no _ _ (by decide +kernel), _, rfl, p, a, U, s, k, rfl, by omega, R, fun wd s1 H1 h1 k1 R1 => ?_, fun z hz => ?_⟩
    rotate_left
    · exact qx z (by unfold rdO; rw [hz])
    obtain ⟨a1, a2, a3, a4, a5, a6, a7⟩ := rdW_ok h1
    obtain ⟨dx1, e1⟩ := R1.ob
    refine ⟨_, rfl, rfl, _, rfl, ?_⟩
    by_cases hw : wd = "repeat"
    rotate_left
    · refine iteNN (fun z => hw (V.str.inj z)) ?_
      refine ⟨_, rfl, _, rfl, p, dx1, _, rfl, e1, rd_no _ _ (by decide +kernel), _, rfl, p, a, U, s1, _, rfl, R1, hsh, fun c s2 H2 h2 k2 R2 => ?_, fun z hz => ?_⟩
      · refine ⟨sl_of (show 2 ≤ 1000000 by decide), fun t nt => ?_⟩
        have s3 := same_new nt (o := HO.tup [V.str wd, V.int c])
        refine q (if wd = "step" then .step c else .turn c) s2 _ _ ?_ (k1.trans (k2.trans (Same.kp s3))) (R2.same s3) ?_
        · unfold rdO
          rw [h1]
          dsimp only
          rw [if_pos hw, show (-(10 ^ 30) : Int) = -1000000000000000000000000000000 from by decide, h2]
        · by_cases hs : wd = "step"
          · rw [if_pos hs]
            subst hs
            exact .step (SqT.of upd_same)
          · rw [if_neg hs]
            have ht : wd = "turn" := a5.elim (fun z => absurd z hs) fun z => z.elim id fun z => absurd z hw
            subst ht
            exact .turn (SqT.of upd_same)
      · refine BadE.kp (qx z ?_) k1
        unfold rdO
        rw [h1]
        dsimp only
        rw [if_pos hw, show (-(10 ^ 30) : Int) = -1000000000000000000000000000000 from by decide, hz]
    refine iteNS (by rw [hw]) ?_
    obtain ⟨g, rfl⟩ : ∃ g, k = g + 1 := ⟨k - 1, by have := (a7 hw).1; omega⟩
    have fork : ∀ {r : Rd Ins}, (match rdC U 0 s1 with | .bad q => Rd.bad q | .ok c s2 => match rdB U s2 with | .bad q => .bad q | .ok _ s3 => match inn U (g + 1) s3 with | .bad q => .bad q | .ok b s4 => Rd.ok (Ins.rep c b) s4) = r → rdO U (g + 1) (inn U (g + 1)) s = r := fun {r} z => by
      unfold rdO
      rw [h1]
      dsimp only
      rw [if_neg (fun y => y hw)]
      exact z
    refine ⟨_, rfl, p, dx1, _, rfl, e1, rd_no _ _ (by decide +kernel), p, a, U, s1, 0, rfl, R1, hsh, fun c s2 H2 h2 k2 R2 => ?_, fun z hz => BadE.kp (qx z (fork (by rw [hz]))) k1⟩
    obtain ⟨dx2, e2⟩ := R2.ob
    refine ⟨_, rfl, p, dx2, _, rfl, e2, rd_no _ _ (by decide +kernel), p, a, U, s2, rfl, R2, fun u s3 H3 h3 k3 R3 => ?_, fun z hz => BadE.kp (qx z (fork (by rw [h2]; dsimp only; rw [hz]))) (k1.trans k2)⟩
    obtain ⟨dx3, e3⟩ := R3.ob
    have fork2 : ∀ {r : Rd Ins}, (match rdL U (rdI U g) (U.length + 1) s3 with | .bad q => Rd.bad q | .ok b s4 => Rd.ok (Ins.rep c b) s4) = r → rdO U (g + 1) (inn U (g + 1)) s = r := fun {r} z => fork (by rw [h2]; dsimp only; rw [h3]; exact z)
    refine ⟨Nat.zero_le _, fun D nD => ?_⟩
    have sD := same_new nD (o := HO.lst [])
    have k123 : Kp p H H3 := k1.trans (k2.trans k3)
    have npD : p ≠ D := ne_of_none e3 nD
    have naD : a ≠ D := ne_of_none R3.tk nD
    have nHD : H D = none := kp_free e3 k123 nD
    have eD : (upd H3 D (.lst [])) p = some (.ins C dx3 (rdF a s3)) := sD _ _ e3
    refine ⟨fun m σ H' => ∃ s' b' ys, σ = [some (.ref p), some (.int (2 - ((g + 1 : Nat) : Int))), some (.str wd), some (.int c), some (.ref D)] ∧ Kp p (upd H3 D (.lst [])) (upd H' D (.lst [])) ∧ Rdr C H' p a U s' ∧ H' D = some (.lst ys) ∧ NwP K (upd H3 D (.lst [])) H' ys b' ∧ rdL U (rdI U g) (U.length + 1) s3 = rdCat b' (rdL U (rdI U g) m s') ∧ U.length < m + s'.p ∧ b'.length ≤ s'.p,
      ⟨U.length + 1, s3, [], [], rfl, fun b o hb z => ?_, R3.same sD, upd_same, .nil, (rdCat_nil _).symm, by omega, Nat.zero_le _⟩, ?_⟩
    · by_cases y : b = D
      · subst y
        rw [upd_same] at z ⊢
        exact z
      · rw [upd_ne y] at z ⊢
        rw [upd_ne y]
        exact z
    rintro m σ H' ⟨s', b', ys, rfl, kD, R', hD', hN, hL, hm, hb'⟩
    obtain ⟨dx', e'⟩ := R'.ob
    obtain ⟨m, rfl⟩ : ∃ z, m = z + 1 := ⟨m - 1, by have := R'.le; omega⟩
    have kH : Kp p H H' := fun b o hb z => by
      have nb : b ≠ D := ne_of_none z nHD
      have := kD b o hb (by rw [upd_ne nb]; exact k123 b o hb z)
      rwa [upd_ne nb] at this
    refine ⟨_, rfl, p, dx', _, rfl, e', rd_no _ _ (by decide +kernel), p, a, U, s', rfl, R', fun t ht => ?_, fun hn => ?_⟩
    rotate_left
    · refine BadE.kp (qx s'.p (fork2 ?_)) kH
      rw [hL, rdL_none hn]
      rfl
    refine ⟨rfl, _, rfl, ?_⟩
    by_cases hend : t = "]"
    · refine iteNS (by rw [hend]) ?_
      subst hend
      have lt := (List.getElem?_eq_some_iff.mp ht).1
      refine ⟨_, rfl, p, C, dx', _, _, rfl, e', T.cl, T.na, rd_at _ _, _, _, rfl, rfl, _, _, e', (by show 4 < 1000; decide), ?_⟩
      have RE := R'.on e' lt
      refine ⟨_, rfl, _, rfl, _, rfl, sl_of (show 3 ≤ 1000000 by decide), fun tt ntt => ?_⟩
      have s9 := same_new ntt (o := HO.tup [V.str wd, V.int c, V.ref D])
      have hDe : upd H' p (.ins C dx' (putF "at" (.int ((s'.p : Int) + 1)) (rdF a s'))) D = some (.lst ys) := by
        rw [upd_ne npD.symm]
        exact hD'
      have kE : Kp p H' (upd H' p (.ins C dx' (putF "at" (.int ((s'.p : Int) + 1)) (rdF a s')))) := kp_upd
      have tE := kp_tpI e' kE
      refine q (.rep c b') ⟨s'.p + 1, s'.n, s'.r⟩ _ _ (fork2 ?_) (kH.trans (kE.trans (Same.kp s9))) (RE.same s9) ?_
      · rw [hL, rdL_end ht]
        show (match Rd.ok (b' ++ []) _ with | .bad q => Rd.bad q | .ok b s4 => Rd.ok (Ins.rep c b) s4) = _
        rw [List.append_nil]
      · subst hw
        refine .rep (SqT.of upd_same) nHD (s9 _ _ hDe) (NwP.same s9 (NwP.less (H0 := upd H3 D (.lst [])) (fun x n => ?_) (hN.stay (fun _ _ g => tp_t tE g) fun L xs n z => ?_)))
        · have nx : x ≠ D := fun z => by
            rw [z, upd_same] at n
            cases n
          rw [upd_ne nx] at n
          exact kp_free e3 k123 n
        · rw [upd_ne (ne_of z e' (by intro y; cases y))]
          exact z
    · refine iteNN (fun z => hend (V.str.inj z)) ?_
      refine ⟨fun σ' H'' => ∃ m', m' < m + 1 ∧ ∃ s' b' ys, σ' = [some (.ref p), some (.int (2 - ((g + 1 : Nat) : Int))), some (.str wd), some (.int c), some (.ref D)] ∧ Kp p (upd H3 D (.lst [])) (upd H'' D (.lst [])) ∧ Rdr C H'' p a U s' ∧ H'' D = some (.lst ys) ∧ NwP K (upd H3 D (.lst [])) H'' ys b' ∧ rdL U (rdI U g) (U.length + 1) s3 = rdCat b' (rdL U (rdI U g) m' s') ∧ U.length < m' + s'.p ∧ b'.length ≤ s'.p, fun _ _ z => z, ?_⟩
      refine ⟨_, rfl, .inl ⟨rfl, _, SqL.of hD'⟩, _, rfl, p, dx', _, rfl, e', rd_no _ _ (by decide +kernel), _, rfl, _, _, rfl, rfl, p, a, U, s', ?_, by omega, by omega, R', hsh, fun i s2' v H2' hi k2' R2' hv => ?_, fun z hz => ?_⟩
      · show [V.ref p, V.int (2 - ((g + 1 : Nat) : Int) + 1)] = [V.ref p, V.int (3 - ((g + 1 : Nat) : Int))]
        rw [show (2 - ((g + 1 : Nat) : Int) + 1) = 3 - ((g + 1 : Nat) : Int) from by omega]
      · obtain ⟨dx4, e4⟩ := R2'.ob
        have hD2 : H2' D = some (.lst ys) := k2' _ _ npD.symm hD'
        have G := (rdI_ok R'.few hi).1
        have yl := hN.len
        have Gp := G.p
        have Gq := G.q
        have big := R.big
        refine ⟨D, ys, v, rfl, rfl, hD2, sl_lt (by omega), ?_⟩
        have t4 : Tp H' H2' := kp_tpI e' k2'
        have t5 : Tp H2' (upd H2' D (.lst (ys ++ [v]))) := tp_lst hD2
        refine ⟨m, Nat.lt_succ_self _, s2', b' ++ [i], ys ++ [v], rfl, fun b o hb z => ?_, ⟨⟨dx4, by rw [upd_ne npD]; exact e4⟩, by rw [upd_ne naD]; exact R2'.tk, R2'.le, R2'.few, R2'.big⟩, upd_same, ?_, ?_, by omega, by rw [List.length_append, List.length_singleton]; omega⟩
        · have := kD b o hb z
          by_cases y : b = D
          · subst y
            rw [upd_same] at this ⊢
            exact this
          · rw [upd_ne y] at this
            rw [upd_ne y, upd_ne y]
            exact k2' b o hb this
        · have keep : ∀ L xs, (upd H3 D (.lst [])) L = none → H2' L = some (.lst xs) → upd H2' D (.lst (ys ++ [v])) L = some (.lst xs) := fun L xs n z => by
            have nL : L ≠ D := fun y => by
              rw [y, upd_same] at n
              cases n
            rw [upd_ne nL]
            exact z
          refine NwP.app (hN.stay (fun _ _ g => tp_t (t4.trans t5) g) fun L xs n z => keep L xs n (k2' _ _ (ne_of z e' (by intro y; cases y)) z)) (.cons ?_ .nil)
          have freeD : ∀ x, H' x = none → (upd H3 D (.lst [])) x = none := fun x n => by
            have nx : x ≠ D := fun z => by
              rw [z, hD'] at n
              cases n
            cases hh : (upd H3 D (.lst [])) x with
            | none => rfl
            | some o =>
              have npx : x ≠ p := fun z => by
                rw [z, e'] at n
                cases n
              have := kD x o npx hh
              rw [upd_ne nx, n] at this
              cases this
          exact (NwI.less freeD hv).stay (fun _ _ g => tp_t t5 g) keep
        · have hi' : rdI U g s' = .ok i s2' := hi
          rw [hL, rdL_more ht hend hi', rdCat_cat]
      · refine BadE.kp (qx z (fork2 ?_)) kH
        have hz' : rdI U g s' = .bad z := hz
        rw [hL, rdL_bad ht hend hz']
        rfl
theorem no_attr {C : Addr} {f : Str} (h : PySem.W.findIn K (.ref C) f = some none) : NoAttr K C f := h
theorem sc_InvalidText___init__ : FnScope ["self", "position"] ["self", "position"] (defScope s_InvalidText___init__) := ⟨rfl, rfl, rfl, by decide +kernel, rfl, by decide +kernel, by decide +kernel⟩
theorem ok_InvalidText___init__ {f : Addr} {fd : FuncData} {C : Addr} (F : Fun K "__init__" "InvalidText.__init__" s_InvalidText___init__ f fd) (T : Over K "ValueError" "ValueError.__new__" "ValueError.__init__" [.type "ValueError", .type "Exception", .type "BaseException", .type "object"] C) (hno : PySem.W.findIn K (.ref C) "position" = some none) : FnOk P w K mg base CX0 1 f fd ["self", "position"] (sp_first C "position") := by
  refine F.ok sc_InvalidText___init__ (fun vs H Q E h => ?_) (fun cdv A outer s H vs Q E hr h => ?_)
  · obtain ⟨a, v, rfl, _⟩ := h
    rfl
  · obtain ⟨a, v, rfl, ea, k⟩ := h
    exact ⟨_, pss_one (ps_first (pv 0) (pv 1)), _, rfl, _, rfl, a, C, rfl, T, hno, ea, k⟩
/-- what the written part says of InvalidText -/
structure TxRaw (K : PySem.W.Frag) (mg : Str → Option Value) (C : Addr) : Prop where
  gl : mg "InvalidText" = some (.ref C)
  ov : Over K "ValueError" "ValueError.__new__" "ValueError.__init__" [.type "ValueError", .type "Exception", .type "BaseException", .type "object"] C
  no : PySem.W.findIn K (.ref C) "position" = some none
  ex : ∃ fI fd, PySem.W.findIn K (.ref C) "__init__" = some (some (.ref fI)) ∧ PySem.W.typeIn K (.ref fI) = some (.type "function") ∧ Fun K "__init__" "InvalidText.__init__" s_InvalidText___init__ fI fd
theorem tx_of {C : Addr} (Z : TxRaw K mg C) : TxtF P w K mg base C := ⟨Z.ov, Z.gl, Z.no, by
  obtain ⟨fI, fd, h1, h2, F⟩ := Z.ex
  exact ⟨fI, fd, ["self", "position"], h1, h2, ok_InvalidText___init__ F Z.ov Z.no, F.binds fun _ _ _ _ _ _ us hl => match us, hl with | [_, _], _ => rfl⟩⟩
/-- what it says of Reader -/
structure RdRaw (K : PySem.W.Frag) (mg : Str → Option Value) (C : Addr) : Prop where
  cl : ClR K mg C
  mkr : ∃ f fd, Mk K C f ∧ Fun K "__init__" "Reader.__init__" s_Reader___init__ f fd
  d1 : DfM K C "has_ended" "Reader.has_ended" s_Reader_has_ended
  d2 : DfM K C "token" "Reader.token" s_Reader_token
  d3 : DfM K C "read_word" "Reader.read_word" s_Reader_read_word
  d4 : DfM K C "read_count" "Reader.read_count" s_Reader_read_count
  d5 : DfM K C "read_bracket" "Reader.read_bracket" s_Reader_read_bracket
  d6 : DfM K C "read_instruction" "Reader.read_instruction" s_Reader_read_instruction
theorem mkR_of {C : Addr} (R : RdRaw K mg C) : MkF P w K mg base "Reader" C 1 (sp_reader C) := ⟨by
  obtain ⟨f, fd, M, F⟩ := R.mkr
  exact ⟨f, fd, ["self", "tokens"], M, ok_Reader___init__ F R.cl, F.binds fun _ _ _ _ _ _ us hl => match us, hl with | [_, _], _ => rfl⟩, R.cl.gl⟩
theorem ok_is_countZ {f : Addr} {fd : FuncData} (F : Fun K "is_count" "is_count" s_is_count f fd) (B : Blt mg) {tk : Tok} (G_GREATEST_COUNT : mg "GREATEST_COUNT" = some (.int 1000000000000000000000000000000 tk)) (C_is_whole : Cal P w K mg base 1 "is_whole" (sp_is_whole K)) : FnOk P w K mg base CX0 2 f fd ["value"] sp_is_countZ := by
  have sc_is_count : FnScope ["value"] ["value"] (defScope s_is_count) := ⟨rfl, rfl, rfl, by decide +kernel, rfl, by decide +kernel, by decide +kernel⟩
  refine F.ok sc_is_count (fun vs H Q E h => ?_) (fun cdv A outer s H vs Q E hr h => ?_)
  · obtain ⟨z, rfl, _⟩ := h
    rfl
  · obtain ⟨z, rfl, k⟩ := h
    have nd := sc_is_count.nd
    refine ⟨_, (pss_one (ps_ret (pe_and (pe_c C_is_whole hr (by decide) (by rfl) (pa_cons (pv 0) pa_nil)) (pe_one (pe_cmpR op_le (pe_callB call_abs (by rfl) B.abs (by decide +kernel) (pa_cons (pv 0) pa_nil)) (pe_glob (v := .int 1000000000000000000000000000000) rfl G_GREATEST_COUNT ⟨_, rfl⟩) (nomark _)))))), ?_⟩
    refine ⟨_, rfl, .int z, .int z, rfl, .inl (.int z), _, rfl, ?_⟩
    refine (if_pos (show isWhole (.int z) = true from rfl)).mpr ?_
    refine ⟨_, rfl, z, rfl, _, _, rfl, rfl, ?_⟩
    have e : decide (z.natAbs ≤ 10 ^ 30) = decide ((if z < 0 then -z else z) ≤ 1000000000000000000000000000000) := by
      rw [decide_eq_decide, show (10 : Nat) ^ 30 = 1000000000000000000000000000000 from by decide]
      split <;> omega
    rw [e] at k
    exact k
theorem ok__law_pickS {f : Addr} {fd : FuncData} (F : Fun K "_law_pick" "_law_pick" s__law_pick f fd) (B : Blt mg) (C__law_draw : Cal P w K mg base 1 "_law_draw" sp__law_draw) : FnOk P w K mg base CX0 2 f fd ["_law_pen_here", "_law_options"] sp__law_pickS := by
  have sc : FnScope ["_law_pen_here", "_law_options"] ["_law_pen_here", "_law_options"] (defScope s__law_pick) := ⟨rfl, rfl, rfl, by decide +kernel, rfl, by decide +kernel, by decide +kernel⟩
  refine F.ok sc (fun vs H Q E h => ?_) (fun cdv A outer s H vs Q E hr h => ?_)
  · obtain ⟨p, c, z, n, rfl, _⟩ := h
    rfl
  · obtain ⟨p, c, z, n, rfl, pen, hn, hz, hz2, k⟩ := h
    have nd := sc.nd
    refine ⟨_, (pss_one (ps_ret (pe_ix ix_str (pv 1) (pe_c C__law_draw hr (by decide) (by rfl) (pa_cons (pv 0) (pa_cons (pe_callB call_len_str (by rfl) B.len (by decide +kernel) (pa_cons (pv 1) pa_nil)) pa_nil))) (fun _ _ => rfl)))), ?_⟩
    refine ⟨_, rfl, _, rfl, _, rfl, z, rfl, sl_of (by omega), p, c, (z.length : Int), n, rfl, by omega, ?_, pen, hn, fun r H1 h0 h9 kp pen1 => ?_⟩
    · exact Nat.lt_of_le_of_lt (show ((z.length : Int)).natAbs ≤ 100000 by omega) (by decide)
    · obtain ⟨j, rfl⟩ : ∃ j : Nat, r = (j : Int) := ⟨r.toNat, by omega⟩
      have hj : j < (TL.tl z).length := by rw [← TL.len_tl]; omega
      refine ⟨z, (j : Int), (TL.tl z)[j], rfl, rfl, sl_of (by omega), atI_nat (List.getElem?_eq_getElem hj), ?_⟩
      exact k _ _ (List.getElem_mem hj) kp pen1
abbrev s___init_N : Stmt := inClass (topS 9) 0
theorem sc___init_N : FnScope ["self", "word"] ["self", "word"] (defScope s___init_N) := ⟨rfl, rfl, rfl, by decide +kernel, rfl, by decide +kernel, by decide +kernel⟩
theorem ok___init_N {f : Addr} {fd : FuncData} {C : Addr} (F : Fun K "__init__" "NothingLeft.__init__" s___init_N f fd) (T : Over K "LookupError" "LookupError.__new__" "LookupError.__init__" [.type "LookupError", .type "Exception", .type "BaseException", .type "object"] C) (hno : PySem.W.findIn K (.ref C) "word" = some none) : FnOk P w K mg base CX0 1 f fd ["self", "word"] (sp_first C "word") := by
  refine F.ok sc___init_N (fun vs H Q E h => ?_) (fun cdv A outer s H vs Q E hr h => ?_)
  · obtain ⟨a, v, rfl, _⟩ := h
    rfl
  · obtain ⟨a, v, rfl, ea, k⟩ := h
    exact ⟨_, pss_one (ps_first (pv 0) (pv 1)), _, rfl, _, rfl, a, C, rfl, T, hno, ea, k⟩
/-- what the written part says of NothingLeft -/
structure LeftRaw (K : PySem.W.Frag) (mg : Str → Option Value) (C : Addr) : Prop where
  gl : mg "NothingLeft" = some (.ref C)
  ov : Over K "LookupError" "LookupError.__new__" "LookupError.__init__" [.type "LookupError", .type "Exception", .type "BaseException", .type "object"] C
  no : PySem.W.findIn K (.ref C) "word" = some none
  ex : ∃ fI fd, PySem.W.findIn K (.ref C) "__init__" = some (some (.ref fI)) ∧ PySem.W.typeIn K (.ref fI) = some (.type "function") ∧ Fun K "__init__" "NothingLeft.__init__" s___init_N fI fd
theorem left_of {C : Addr} (Z : LeftRaw K mg C) : LeftF P w K mg base C := ⟨Z.ov, Z.gl, Z.no, by
  obtain ⟨fI, fd, h1, h2, F⟩ := Z.ex
  exact ⟨fI, fd, ["self", "word"], h1, h2, ok___init_N F Z.ov Z.no, F.binds fun _ _ _ _ _ _ us hl => match us, hl with | [_, _], _ => rfl⟩⟩
theorem sc_Road___init__ : FnScope ["self", "prime"] ["self", "prime"] (defScope s_Road___init__) := ⟨rfl, rfl, rfl, by decide +kernel, rfl, by decide +kernel, by decide +kernel⟩
theorem ok_Road___init__ {f C : Addr} {fd : FuncData} (F : Fun K "__init__" "Road.__init__" s_Road___init__ f fd) (T : ClRo K mg C) : FnOk P w K mg base CX0 1 f fd ["self", "prime"] (sp_road C) := by
  refine F.ok sc_Road___init__ (fun vs H Q E h => ?_) (fun cdv A outer s H vs Q E hr h => ?_)
  · obtain ⟨r, dx, q, rfl, _⟩ := h
    rfl
  · obtain ⟨r, dx, q, rfl, hp, k⟩ := h
    refine ⟨_, (pss_cons (ps_fld (pv 0) (pv 1) rfl)
    (pss_cons (ps_fld (pv 0) (pe_lst pa_nil) rfl)
    (pss_one (ps_fld (pv 0) (pe_lst pa_nil) rfl)))), ?_⟩
    refine ⟨_, rfl, _, rfl, r, C, dx, [], rfl, hp, T.cl, T.np, (by decide : 0 < 1000), ?_⟩
    refine ⟨Nat.zero_le _, fun D nD => ?_⟩
    have rD : r ≠ D := ne_of_none upd_same nD
    refine ⟨_, rfl, r, C, dx, _, rfl, by rw [upd_ne rD]; exact upd_same, T.cl, T.nd, (by show 1 < 1000; decide), ?_⟩
    refine ⟨Nat.zero_le _, fun T0 nT => ?_⟩
    have rT : r ≠ T0 := ne_of_none upd_same nT
    have DT : D ≠ T0 := fun z => by
      rw [← z, upd_ne rD.symm, upd_same] at nT
      cases nT
    refine ⟨_, rfl, r, C, dx, _, rfl, by rw [upd_ne rT]; exact upd_same, T.cl, T.nt, ?_, ?_⟩
    · exact Nat.lt_of_le_of_lt (length_putF _ _ _) (by show 1 + 1 < 1000; decide)
    have n1 : H D = none := by rw [upd_ne rD.symm] at nD; exact nD
    have n2 : H T0 = none := by rw [upd_ne rT.symm, upd_ne DT.symm, upd_ne rT.symm] at nT; exact nT
    refine k D T0 _ (fun b o nb e => ?_) n1 n2 DT ?_ ?_ ?_
    · rw [upd_ne nb, upd_ne (ne_of_none e n2), upd_ne nb, upd_ne (ne_of_none e n1), upd_ne nb]
      exact e
    · rw [upd_same]
      have e : putF "taken_back" (.ref T0) (putF "done" (.ref D) (putF "prime" (.int q) [])) = roF q D T0 := by
        show putF "taken_back" (.ref T0) (if ("prime" : Str) = "done" then _ else [(("prime" : Str), V.int q), (("done" : Str), V.ref D)]) = _
        rw [if_neg nmRo2.1]
        show (if ("prime" : Str) = "taken_back" then _ else (("prime" : Str), V.int q) :: (if ("done" : Str) = "taken_back" then _ else [(("done" : Str), V.ref D), (("taken_back" : Str), V.ref T0)])) = _
        rw [if_neg nmRo2.2.1, if_neg nmRo2.2.2]
        rfl
      exact congrArg (fun l => some (HO.ins C dx l)) e
    · rw [upd_ne rD.symm, upd_ne DT, upd_ne rD.symm, upd_same]
    · rw [upd_ne rT.symm, upd_same]
theorem sc_Road___eq__ : FnScope ["self", "other", "action"] ["self", "other"] (defScope s_Road___eq__) := ⟨rfl, rfl, rfl, by decide +kernel, rfl, by decide +kernel, by decide +kernel⟩
theorem ok_Road___eq__ {C : Addr} {f : Addr} {fd : FuncData} (F : Fun K "__eq__" "Road.__eq__" s_Road___eq__ f fd) (B : Blt mg) (T : ClRo K mg C) (Z : EqC K C) (C_plain_action : Cal P w K mg base 4 "plain_action" (sp_plain_action K)) : FnOk P w K mg base CX0 5 f fd ["self", "other"] (sp_road_eq K C) := by
  refine F.ok sc_Road___eq__ (fun vs H Q E h => ?_) (fun cdv A outer s H vs Q E hr h => ?_)
  · obtain ⟨r, D, T1, r2, D2, T2, q, q2, as, bs, as2, bs2, M, M2, rfl, _⟩ := h
    rfl
  · obtain ⟨r, D, T1, r2, D2, T2, q, q2, as, bs, as2, bs2, M, M2, rfl, R, R2, h1, h2, k⟩ := h
    have nd := sc_Road___eq__.nd
    have hu2 := hr.units
    obtain ⟨dx, hr0⟩ := R.ob
    obtain ⟨dx2, hr2⟩ := R2.ob
    obtain ⟨xs, hD, hA⟩ := R.dn
    obtain ⟨xs2, hD2, hA2⟩ := R2.dn
    have hA0 : ActVs K H xs as := hA.same erM_le
    have hA20 : ActVs K H xs2 as2 := hA2.same erM_le
    have la := hA0.len
    have la2 := hA20.len
    have f1 := R.fewA
    have f2 := R2.fewA
    -- each action of a list, plain
    have each : ∀ {ys : List V} {cs : List Act}, ActVs K H ys cs → (∀ a ∈ cs, OkA a) → ∀ {m : Nat} {x : V} {G : Hp}, Same H G → ys[m]? = some x → ∃ a, cs[m]? = some a ∧ ActV K G x a ∧ ∀ n d b, a = .run n d b → dpP b < 3 ∧ cnP b ≤ 1000 := fun {ys cs} hy ok {m x G} s e => by
      obtain ⟨a, ha, hx⟩ := hy.get e
      refine ⟨a, ha, hx.same s, fun n d b e => ?_⟩
      have := ok a (List.mem_of_getElem? ha)
      rw [e] at this
      exact ⟨this.2.1.dp, Nat.le_trans this.2.1.cn (by decide)⟩
    have gone : ∀ {m : Nat} {H2 H4 : Hp} {v : V} {a : Act} {cs : List Act}, cs[m]? = some a → Same H2 H4 → ActV K (er H2 H4) v (lsA a) → ∀ D0, H2 D0 ≠ none → (∃ zs, H4 D0 = some (.lst zs)) → ∃ c, cs[m]? = some c ∧ ActV K (er1 D0 H4) v (lsA c) := fun {m H2 H4 v a cs} ha s4 hv D0 n0 ⟨zs, z0⟩ => by
      refine ⟨a, ha, hv.same fun b o e => ?_⟩
      obtain ⟨e1, e2⟩ := er_at e
      refine er1_of (fun z => ?_) e1
      subst z
      cases q : H2 b with
      | none => exact n0 q
      | some u =>
        have := s4 _ _ q
        rw [z0] at this
        cases this
        exact e2 _ q
    have data : ∀ {G : Hp} {L : Addr} {ys : List V} {cs : List Act}, G L = some (.lst ys) → ys.length = cs.length → (∀ m y, ys[m]? = some y → ∃ c, cs[m]? = some c ∧ ActV K G y (lsA c)) → Dp K G (.ref L) (.list ((cs.map lsA).map actD)) := fun {G L ys cs} hL hl hR => by
      refine .lst (SqL.of hL) ?_
      refine ActVs.dp (as := cs.map lsA) ?_
      exact paired_mk (by rw [List.length_map]; exact hl) fun m y c e1 e2 => by
        obtain ⟨c', h3, h4⟩ := hR m y e1
        rw [List.getElem?_map, h3] at e2
        cases e2
        exact h4
    refine ⟨_, (pss_cons (ps_if (PW.pt (pw_or (pt_not (pt_val (pe_callB (C8.call_isC Z.ic) (by rfl) B.isinstance (by decide +kernel) (pa_cons (pv 1) (pa_cons (pe_glob (v := .ref C) rfl T.gl rfl) pa_nil))))) (pw_or1 (pt_cmpR op_ne (pe_fld (pv 0) rfl) (pe_fld (pv 1) rfl) (nomark _)))))
      (pss_one (ps_ret pe_bl))
      pss_nil)
    (pss_one (ps_ret (pe_cmpR (op_eqD hu2) (pe_lc (own := [("action", 2)]) (by rfl) nd (pi_list (pe_fld (pv 0) rfl)) (blkOk_by (N := ["self", "other", "action"]) (sc := defScope s_Road___eq__) (own := [("action", 2)]) (by decide +kernel)) (fun _ _ _ _ _ => (pg_name (i := 2) nd rfl (.inl rfl))) (fun _ _ _ _ _ => pts_nil) (fun _ _ _ _ _ => (pe_c C_plain_action hr (by decide) (by rfl) (pa_cons (pv 2) pa_nil)))) (pe_lc (own := [("action", 2)]) (by rfl) nd (pi_list (pe_fld (pv 1) rfl)) (blkOk_by (N := ["self", "other", "action"]) (sc := defScope s_Road___eq__) (own := [("action", 2)]) (by decide +kernel)) (fun _ _ _ _ _ => (pg_name (i := 2) nd rfl (.inl rfl))) (fun _ _ _ _ _ => pts_nil) (fun _ _ _ _ _ => (pe_c C_plain_action hr (by decide) (by rfl) (pa_cons (pv 2) pa_nil)))) (nomark _))))), ?_⟩
    refine ⟨_, rfl, r2, dx2, _, rfl, hr2, true, rfl, iteF ?_⟩
    refine ⟨_, rfl, r, C, dx, _, _, rfl, hr0, T.cl, T.np, ro_prime _ _ _, _, rfl, r2, C, dx2, _, _, rfl, hr2, T.cl, T.np, ro_prime _ _ _, rfl, _, rfl, ?_⟩
    by_cases eq : q = q2
    · subst eq
      refine iteNS rfl ?_
      dsimp only [tNext, tSeq, tRet, tOp]
      refine lcW (n := xs.length) (J := Itl K D) (walk_list (K := K) (a := D) (xs := xs)) (fun m G v => ∃ c, as[m]? = some c ∧ ActV K G v (lsA c)) (fun m G1 G2 v s ⟨c, e1, e2⟩ => ⟨c, e1, e2.same s⟩) (fun S hS => ⟨_, rfl, r, C, dx, _, _, rfl, hr0, T.cl, T.nd, ro_done _ _ _, D, rfl, ⟨_, SqL.of hD⟩, hS⟩) (fun H' s' => SqL.of (s' _ _ hD)) (by omega) (fun m x H2 H3 hm s2 hy S hS => ?_) fun L1 y1 H1 nL1 s1 hL1 l1 R1 => ?_
      · obtain ⟨rfl, hx⟩ := hy
        obtain ⟨a, ha, hv, hb⟩ := each hA0 h1 s2 hx
        refine ⟨rfl, _, rfl, x, a, rfl, hv, hb, fun v' H4 s4 hv' => hS v' H4 s4 (gone ha s4 hv')⟩
      refine lcW (n := xs2.length) (J := Itl K D2) (walk_list (K := K) (a := D2) (xs := xs2)) (fun m G v => ∃ c, as2[m]? = some c ∧ ActV K G v (lsA c)) (fun m G1 G2 v s ⟨c, e1, e2⟩ => ⟨c, e1, e2.same s⟩) (fun S hS => ⟨_, rfl, r2, C, dx2, _, _, rfl, s1 _ _ hr2, T.cl, T.nd, ro_done _ _ _, D2, rfl, ⟨_, SqL.of (s1 _ _ hD2)⟩, hS⟩) (fun H' s' => SqL.of (s' _ _ (s1 _ _ hD2))) (by omega) (fun m x H2 H3 hm s2 hy S hS => ?_) fun L2 y2 H2 nL2 s2 hL2 l2 R2 => ?_
      · obtain ⟨rfl, hx⟩ := hy
        obtain ⟨a, ha, hv, hb⟩ := each hA20 h2 (s1.trans s2) hx
        refine ⟨rfl, _, rfl, x, a, rfl, hv, hb, fun v' H4 s4 hv' => hS v' H4 s4 (gone ha s4 hv')⟩
      have d1 := data (s2 _ _ hL1) (l1.trans la) (fun m y e => by
        obtain ⟨c, e1, e2⟩ := R1 m y e
        exact ⟨c, e1, e2.same s2⟩)
      have d2 := data hL2 (l2.trans la2) R2
      refine ⟨_, _, d1, d2, acts_shaped fun a ha => ?_, acts_shaped fun a ha => ?_, k _ H2 (s1.trans s2) (eq_says h1 q)⟩
      · obtain ⟨c, hc, rfl⟩ := List.mem_map.mp ha
        exact okA_ls (h1 c hc)
      · obtain ⟨c, hc, rfl⟩ := List.mem_map.mp ha
        exact okA_ls (h2 c hc)
    · refine iteNN ?_ (k _ H (Same.refl _) ⟨fun z => (by cases z), fun z => absurd z eq⟩)
      exact fun z => eq (V.int.inj z)
theorem sc_Road_perform : FnScope ["self", "action"] ["self", "action"] (defScope s_Road_perform) := ⟨rfl, rfl, rfl, by decide +kernel, rfl, by decide +kernel, by decide +kernel⟩
theorem ok_Road_perform {f C : Addr} {fd : FuncData} (F : Fun K "perform" "Road.perform" s_Road_perform f fd) (T : ClRo K mg C) : FnOk P w K mg base CX0 1 f fd ["self", "action"] (sp_perform K C) := by
  refine F.ok sc_Road_perform (fun vs H Q E h => ?_) (fun cdv A outer s H vs Q E hr h => ?_)
  · obtain ⟨r, D, T0, dx, t, q, xs, ys, rfl, _⟩ := h
    rfl
  · obtain ⟨r, D, T0, dx, t, q, xs, ys, rfl, hr0, hD, hT, ne, few, k⟩ := h
    have rD : r ≠ D := ne_of hr0 hD (by intro z; cases z)
    refine ⟨_, (pss_cons (ps_expr (pe_bm PySem.F.plainAttrs_list PySem.F.slot_list_append PySem.F.type_list_append mt_append (pe_fld (pv 0) rfl) (pa_cons (pv 1) pa_nil)))
    (pss_one (ps_expr (pe_bm0 PySem.F.plainAttrs_list PySem.F.slot_list_clear PySem.F.type_list_clear mt_clear (pe_fld (pv 0) rfl))))), ?_⟩
    refine ⟨_, rfl, r, C, dx, _, _, rfl, hr0, T.cl, T.nd, ro_done _ _ _, .inl ⟨rfl, _, SqL.of hD⟩, _, rfl, D, xs, _, rfl, rfl, hD, sl_lt (by omega), ?_⟩
    have hr1 : upd H D (.lst (xs ++ [.ref t])) r = some (.ins C dx (roF q D T0)) := by rw [upd_ne rD]; exact hr0
    have hT1 : upd H D (.lst (xs ++ [.ref t])) T0 = some (.lst ys) := by rw [upd_ne ne.symm]; exact hT
    refine ⟨_, rfl, r, C, dx, _, _, rfl, hr1, T.cl, T.nt, ro_taken _ _ _, .inl ⟨rfl, _, SqL.of hT1⟩, T0, ys, rfl, rfl, hT1, ?_⟩
    refine k _ (fun b o nb e => ?_) ?_ upd_same
    · rw [upd_ne fun z => nb (.inr z), upd_ne fun z => nb (.inl z)]
      exact e
    · rw [upd_ne ne]
      exact upd_same
theorem sc_Road_has_walker : FnScope ["self", "name", "action"] ["self", "name"] (defScope s_Road_has_walker) := ⟨rfl, rfl, rfl, by decide +kernel, rfl, by decide +kernel, by decide +kernel⟩
theorem ok_Road_has_walker {f C : Addr} {fd : FuncData} (F : Fun K "has_walker" "Road.has_walker" s_Road_has_walker f fd) (T : ClRo K mg C) : FnOk P w K mg base CX0 1 f fd ["self", "name"] (sp_has_walker K C) := by
  refine F.ok sc_Road_has_walker (fun vs H Q E h => ?_) (fun cdv A outer s H vs Q E hr h => ?_)
  · obtain ⟨r, D, T0, q, as, bs, M, n, rfl, _⟩ := h
    rfl
  · obtain ⟨r, D, T0, q, as, bs, M, n, rfl, R, k⟩ := h
    have nd := sc_Road_has_walker.nd
    obtain ⟨dx, hr0⟩ := R.ob
    obtain ⟨xs, hD, hA⟩ := R.dn
    have hlen := hA.len
    have few := R.fewA
    refine ⟨_, (pss_one (ps_ret (pe_cmpR op_in_seq (pv 1) (pe_lc (own := [("action", 2)]) (by rfl) nd (pi_list (pe_fld (pv 0) rfl)) (blkOk_by (N := ["self", "name", "action"]) (sc := defScope s_Road_has_walker) (own := [("action", 2)]) (by decide +kernel)) (fun _ _ _ _ _ => (pg_name (i := 2) nd rfl (.inl rfl))) (fun _ _ _ _ _ => (pts_one (pt_cmpR op_eq (pe_ix (ix_tupK K rfl) (pv 2) pe_int (fun _ _ => rfl)) pe_str (nomark _)))) (fun _ _ _ _ _ => (pe_ix (ix_tupK K rfl) (pv 2) pe_int (fun _ _ => rfl)))) rfl))), ?_⟩
    refine ⟨_, rfl, _, rfl, r, C, dx, _, _, rfl, hr0, T.cl, T.nd, ro_done _ _ _, D, rfl, ⟨_, SqL.of hD⟩, fun L nL => lc_list (K := K) (a := D) (xs := xs) (fun m H2 => Same H H2 ∧ H2 L = some (.lst ((namesOf (as.take m)).map V.str))) ⟨same_new nL, upd_same⟩ (fun m H2 _ z => SqL.of (z.1 _ _ hD)) ?_ fun H2 z => ?_⟩
    · rintro m x H2 hm ⟨s2, hL⟩
      obtain ⟨a, ha, hx⟩ := hA.get hm
      have ml : m < as.length := (List.getElem?_eq_some_iff.mp ha).1
      have nl : (namesOf (as.take m)).length ≤ m := by
        refine Nat.le_trans (List.length_filterMap_le _ _) ?_
        rw [List.length_take]
        omega
      refine ⟨rfl, ?_⟩
      cases a with
      | enter nm pl =>
        obtain ⟨t, rfl, ht⟩ := hx
        have ht2 := same_t (erM_le.trans s2) ht
        refine ⟨_, rfl, t, _, 0, _, rfl, rfl, ht2, rfl, rfl, _, rfl, iteS rfl ?_⟩
        refine ⟨_, rfl, t, _, 1, _, rfl, rfl, ht2, rfl, _, hL, sl_lt (by rw [List.length_map]; omega), same_mut s2 nL, ?_⟩
        rw [upd_same, take_snoc ha]
        unfold namesOf
        rw [List.filterMap_append, List.map_append]
        rfl
      | run nm d b =>
        obtain ⟨t, u, rfl, ht, _⟩ := hx
        have ht2 := same_t (erM_le.trans s2) ht
        have v_re : ¬ (V.str "run" = V.str "enter") := by decide +kernel
        refine ⟨_, rfl, t, _, 0, _, rfl, rfl, ht2, rfl, rfl, _, rfl, iteN v_re ?_⟩
        refine ⟨s2, ?_⟩
        rw [hL, take_snoc ha]
        unfold namesOf
        rw [List.filterMap_append]
        exact congrArg (fun l => some (HO.lst (List.map V.str l))) (List.append_nil _).symm
    · obtain ⟨s2, hL⟩ := z
      rw [hlen, List.take_length] at hL
      refine ⟨L, _, rfl, .inl (SqL.of hL), rfl, flat_strs _, ?_⟩
      have := k H2 s2
      show Q (.bl (inV (.str n) _)) H2
      rw [inV_strs]
      exact this
theorem sc_Road_enter : FnScope ["self", "name", "place"] ["self", "name", "place"] (defScope s_Road_enter) := ⟨rfl, rfl, rfl, by decide +kernel, rfl, by decide +kernel, by decide +kernel⟩
theorem ok_Road_enter {f C : Addr} {fd : FuncData} (F : Fun K "enter" "Road.enter" s_Road_enter f fd) (B : Blt mg) (T : ClRo K mg C) (C_is_name : Cal P w K mg base 1 "is_name" sp_is_name) (C_is_count : Cal P w K mg base 2 "is_count" sp_is_countZ) (M_has_walker : MetC CX0 P w K mg base C 1 "has_walker" (sp_has_walker K C)) (M_perform : MetC CX0 P w K mg base C 1 "perform" (sp_perform K C)) : FnOk P w K mg base CX0 3 f fd ["self", "name", "place"] (sp_enter K C) := by
  refine F.ok sc_Road_enter (fun vs H Q E h => ?_) (fun cdv A outer s H vs Q E hr h => ?_)
  · obtain ⟨r, D, T0, p, q, as, bs, M, n, pl, rfl, _⟩ := h
    rfl
  · obtain ⟨r, D, T0, p, q, as, bs, M, n, pl, rfl, R, mok, hn, nn, hpl, few, k⟩ := h
    have nd := sc_Road_enter.nd
    obtain ⟨dx, hr0⟩ := R.ob
    obtain ⟨xs, hD, hA⟩ := R.dn
    obtain ⟨ys, hT, hB⟩ := R.tb
    have hlen := hA.len
    have nl : n.length ≤ 100000 := by
      unfold nameOk at hn
      have := of_decide_eq_true (Bool.and_eq_true_iff.mp hn).1
      omega
    refine ⟨_, (pss_cons (ps_if (pt_not (pt_val (pe_c C_is_name hr (by decide) (by rfl) (pa_cons (pv 1) pa_nil))))
      (pss_one ps_never)
      pss_nil)
    (pss_cons (ps_if (pt_val (pe_meth (pv 0) T.cl M_has_walker.hm M_has_walker.ok (hr.mono (by decide)) M_has_walker.b .nil (E := E0) pass0 (pa_cons (pv 1) pa_nil)))
      (pss_one ps_never)
      pss_nil)
    (pss_cons (ps_if (pt_not (pt_val (pe_c C_is_count hr (by decide) (by rfl) (pa_cons (pv 2) pa_nil))))
      (pss_one ps_never)
      pss_nil)
    (pss_one (ps_expr (pe_meth (pv 0) T.cl M_perform.hm M_perform.ok (hr.mono (by decide)) M_perform.b .nil (E := E0) pass0 (pa_cons (pe_tup (pa_cons pe_str (pa_cons (pv 1) (pa_cons (pv 2) pa_nil)))) pa_nil))))))), ?_⟩
    refine ⟨_, rfl, n, rfl, nl, fun H1 s1 => ⟨_, rfl, ?_⟩⟩
    rw [hn]
    refine iteF ?_
    have R1 := R.same s1
    obtain ⟨dx1, hr1⟩ := R1.ob
    refine ⟨_, rfl, r, dx1, _, rfl, hr1, ro_no _ _ _ (by decide +kernel), _, rfl, r, D, T0, q, as, bs, M, n, rfl, R1, fun H2 s2 => ⟨_, rfl, ?_⟩⟩
    rw [decide_eq_false nn]
    refine iteF ?_
    refine ⟨_, rfl, pl, rfl, _, rfl, ?_⟩
    rw [decide_eq_true hpl]
    refine iteF ?_
    have s12 := s1.trans s2
    have hr2 := s2 _ _ hr1
    refine ⟨_, rfl, r, dx1, _, rfl, hr2, ro_no _ _ _ (by decide +kernel), _, rfl, _, rfl, sl_of (show 3 ≤ 1000000 by decide), fun t nt => ?_⟩
    have st := same_new nt (o := HO.tup [V.str "enter", V.str n, V.int pl])
    have s3 := s12.trans st
    have hD3 := s3 _ _ hD
    have hT3 := s3 _ _ hT
    refine ⟨r, D, T0, dx1, t, q, xs, ys, rfl, st _ _ hr2, hD3, hT3, R.ne, by omega, fun H4 k4 hD4 hT4 => ?_⟩
    have m3 := mok.same s3
    have k04 : Kst (Own2 D T0) H H4 := (Same.ks s3).trans k4
    refine k H4 k04 (m3.own k4 hD3 hT3 ⟨_, hD4⟩ ⟨_, hT4⟩) ?_
    have kM : Kst M H H4 := k04.sub fun b z => z.elim (fun e => e ▸ R.mD) fun e => e ▸ R.mT
    have nt' : ¬ M t := m3.notup upd_same
    refine ⟨⟨dx1, k4 _ _ (fun z => R.nr (z.elim (fun e => e ▸ R.mD) fun e => e ▸ R.mT)) (st _ _ hr2)⟩, ⟨_, hD4, paired_app (hA.same kM.er) (.cons ⟨t, rfl, SqT.of (erM_of nt' (k4 _ _ (fun z => nt' (z.elim (fun e => e ▸ R.mD) fun e => e ▸ R.mT)) upd_same))⟩ .nil)⟩, ⟨_, hT4, .nil⟩, R.mD, R.mT, R.nr, R.ne, by rw [List.length_append]; show as.length + 1 ≤ _; omega, Nat.zero_le _, R.lg.snoc ⟨?_, hpl⟩⟩
    rw [gS_none, R.lg.names.1]
    exact nn
theorem sc_Road_run : FnScope ["self", "name", "program"] ["self", "name", "program"] (defScope s_Road_run) := ⟨rfl, rfl, rfl, by decide +kernel, rfl, by decide +kernel, by decide +kernel⟩
theorem ok_Road_run {f C : Addr} {fd : FuncData} (F : Fun K "run" "Road.run" s_Road_run f fd) (B : Blt mg) (T : ClRo K mg C) (C_is_program : Cal P w K mg base 7 "is_program" (sp_is_program K)) (C_copied : Cal P w K mg base (3 + 0) "copied" (sp_copied K 3)) (M_has_walker : MetC CX0 P w K mg base C 1 "has_walker" (sp_has_walker K C)) (M_perform : MetC CX0 P w K mg base C 1 "perform" (sp_perform K C)) : FnOk P w K mg base CX0 8 f fd ["self", "name", "program"] (sp_run K C) := by
  refine F.ok sc_Road_run (fun vs H Q E h => ?_) (fun cdv A outer s H vs Q E hr h => ?_)
  · obtain ⟨r, D, T0, p, q, as, bs, M, n, u, d, b, rfl, _⟩ := h
    rfl
  · obtain ⟨r, D, T0, p, q, as, bs, M, n, u, d, b, rfl, R, mok, nn, hu, hp, po, few, k⟩ := h
    have nd := sc_Road_run.nd
    obtain ⟨dx, hr0⟩ := R.ob
    obtain ⟨xs, hD, hA⟩ := R.dn
    obtain ⟨ys, hT, hB⟩ := R.tb
    have hlen := hA.len
    refine ⟨_, (pss_cons (ps_if (pt_not (pt_val (pe_meth (pv 0) T.cl M_has_walker.hm M_has_walker.ok (hr.mono (by decide)) M_has_walker.b .nil (E := E0) pass0 (pa_cons (pv 1) pa_nil))))
      (pss_one ps_never)
      pss_nil)
    (pss_cons (ps_if (pt_not (pt_val (pe_c C_is_program hr (by decide) (by rfl) (pa_cons (pv 2) pa_nil))))
      (pss_one ps_never)
      pss_nil)
    (pss_one (ps_expr (pe_meth (pv 0) T.cl M_perform.hm M_perform.ok (hr.mono (by decide)) M_perform.b .nil (E := E0) pass0 (pa_cons (pe_tup (pa_cons pe_str (pa_cons (pv 1) (pa_cons (pe_c C_copied hr (by decide) (by rfl) (pa_cons (pv 2) pa_nil)) pa_nil)))) pa_nil)))))), ?_⟩
    refine ⟨_, rfl, r, dx, _, rfl, hr0, ro_no _ _ _ (by decide +kernel), _, rfl, r, D, T0, q, as, bs, M, n, rfl, R, fun H1 s1 => ⟨_, rfl, ?_⟩⟩
    rw [decide_eq_true nn]
    refine iteF ?_
    refine ⟨_, rfl, u, b, rfl, ⟨d, Dp.same s1 hu, hp⟩, po.dp, po.cp, po.np, po.rp, po.cn, po.sd, fun H2 s2 => ⟨_, rfl, iteF ?_⟩⟩
    have s12 := s1.trans s2
    have hr2 := s12 _ _ hr0
    refine ⟨_, rfl, r, dx, _, rfl, hr2, ro_no _ _ _ (by decide +kernel), _, rfl, _, rfl, u, d, b, rfl, Dp.same s12 hu, hp, po.dp, by decide, Nat.le_trans po.cn (by decide), fun v H3 s3 hv => ?_⟩
    refine ⟨sl_of (show 3 ≤ 1000000 by decide), fun t nt => ?_⟩
    have st := same_new nt (o := HO.tup [V.str "run", V.str n, v])
    have s03 := s12.trans s3
    have s4 := s03.trans st
    have hD4 := s4 _ _ hD
    have hT4 := s4 _ _ hT
    refine ⟨r, D, T0, dx, t, q, xs, ys, rfl, s4 _ _ hr0, hD4, hT4, R.ne, by omega, fun H5 k5 hD5 hT5 => ?_⟩
    have m4 := mok.same s4
    have k05 : Kst (Own2 D T0) H H5 := (Same.ks s4).trans k5
    refine k H5 k05 (m4.own k5 hD4 hT4 ⟨_, hD5⟩ ⟨_, hT5⟩) ?_
    have own : ∀ b, Own2 D T0 b → M b := fun b z => z.elim (fun e => e ▸ R.mD) fun e => e ▸ R.mT
    have kM : Kst M H H5 := k05.sub own
    have nt' : ¬ M t := m4.notup upd_same
    have m2 := mok.same s12
    obtain ⟨kvs, hpp⟩ := m2.dict
    have hv3 : Dp K (erM M H3) v d := m2.data (s3 _ _ hpp) hv
    have kM3 : Kst M H3 H5 := (Same.ks st).trans (k5.sub own)
    refine ⟨⟨dx, k05 _ _ (fun z => R.nr (own _ z)) hr0⟩, ⟨_, hD5, paired_app (hA.same kM.er) (.cons ⟨t, v, rfl, SqT.of (erM_of nt' (k5 _ _ (fun z => nt' (own _ z)) upd_same)), Dp.same kM3.er hv3, hp⟩ .nil)⟩, ⟨_, hT5, .nil⟩, R.mD, R.mT, R.nr, R.ne, by rw [List.length_append]; show as.length + 1 ≤ _; omega, Nat.zero_le _, R.lg.snoc ⟨?_, po, hp⟩⟩
    cases e : gS (stO as) n with
    | none =>
      rw [gS_none, R.lg.names.1] at e
      exact absurd nn e
    | some z => exact ⟨z, rfl⟩
theorem sc_Road_undo : FnScope ["self", "action"] ["self"] (defScope s_Road_undo) := ⟨rfl, rfl, rfl, by decide +kernel, rfl, by decide +kernel, by decide +kernel⟩
theorem ok_Road_undo {C : Addr} {f : Addr} {fd : FuncData} (F : Fun K "undo" "Road.undo" s_Road_undo f fd) (B : Blt mg) (T : ClRo K mg C) (C_copied_action : Cal P w K mg base 4 "copied_action" (sp_copied_action K)) : FnOk P w K mg base CX0 5 f fd ["self"] (sp_undo K C) := by
  refine F.ok sc_Road_undo (fun vs H Q E h => ?_) (fun cdv A outer s H vs Q E hr h => ?_)
  · obtain ⟨r, D, T0, p, q, as, bs, a, M, rfl, _⟩ := h
    rfl
  · obtain ⟨r, D, T0, p, q, as, bs, a, M, rfl, R, mok, few, ok, k⟩ := h
    have nd := sc_Road_undo.nd
    obtain ⟨dx, hr0⟩ := R.ob
    obtain ⟨xs, hD, hA⟩ := R.dn
    obtain ⟨ys, hT, hB⟩ := R.tb
    obtain ⟨zs, v, rfl, hZ, hv⟩ := acts_put hA
    have lz := hZ.len
    have ly := hB.len
    have f1 := R.fewA
    rw [List.length_append] at f1
    have rD : r ≠ D := ne_of hr0 hD (by intro z; cases z)
    refine ⟨_, (pss_cons (ps_if (pt_not (pt_truth (pe_fld (pv 0) rfl) (by intro _; rfl)))
      (pss_one ps_never)
      pss_nil)
    (pss_cons (ps_set (i := 1) nd rfl (.inl rfl) (pe_bm0 PySem.F.plainAttrs_list PySem.F.slot_list_pop PySem.F.type_list_pop mt_pop (pe_fld (pv 0) rfl)))
    (pss_cons (ps_expr (pe_bm PySem.F.plainAttrs_list PySem.F.slot_list_append PySem.F.type_list_append mt_append (pe_fld (pv 0) rfl) (pa_cons (pv 1) pa_nil)))
    (pss_one (ps_ret (pe_c C_copied_action hr (by decide) (by rfl) (pa_cons (pv 1) pa_nil))))))), ?_⟩
    refine ⟨_, rfl, r, C, dx, _, _, rfl, hr0, T.cl, T.nd, ro_done _ _ _, true, .inl ⟨_, SqL.of hD, by simp⟩, iteF ?_⟩
    refine ⟨_, rfl, r, C, dx, _, _, rfl, hr0, T.cl, T.nd, ro_done _ _ _, .inl ⟨rfl, _, SqL.of hD⟩, D, _, v, rfl, rfl, hD, by simp, ?_⟩
    rw [List.dropLast_concat]
    have hr1 : upd H D (.lst zs) r = some (.ins C dx (roF q D T0)) := by rw [upd_ne rD]; exact hr0
    have hT1 : upd H D (.lst zs) T0 = some (.lst ys) := by rw [upd_ne R.ne.symm]; exact hT
    refine ⟨_, rfl, r, C, dx, _, _, rfl, hr1, T.cl, T.nt, ro_taken _ _ _, .inl ⟨rfl, _, SqL.of hT1⟩, _, rfl, T0, ys, _, rfl, rfl, hT1, sl_lt (by omega), ?_⟩
    obtain ⟨H2, eH2⟩ : ∃ X, X = upd (upd H D (.lst zs)) T0 (.lst (ys ++ [v])) := ⟨_, rfl⟩
    rw [← eH2]
    have k2 : Kst (Own2 D T0) H H2 := fun b o nb e => by
      rw [eH2, upd_ne fun z => nb (.inr z), upd_ne fun z => nb (.inl z)]
      exact e
    have hD2 : H2 D = some (.lst zs) := by rw [eH2, upd_ne R.ne]; exact upd_same
    have hT2 : H2 T0 = some (.lst (ys ++ [v])) := by rw [eH2]; exact upd_same
    have m2 := mok.own k2 hD hT ⟨_, hD2⟩ ⟨_, hT2⟩
    have R2 : RoadAt K C M H2 r D T0 q as (bs ++ [a]) := R.shift hr0 k2 hD2 hT2 hZ (paired_app hB (.cons hv .nil)) (by have : [a].length = 1 := rfl; omega) (by rw [List.length_append]; show bs.length + 1 ≤ 1000; omega) R.lg.front
    have own : ∀ b, Own2 D T0 b → M b := fun b z => z.elim (fun e => e ▸ R.mD) fun e => e ▸ R.mT
    have hv2 : ActV K H2 v a := (hv.same (k2.sub own).er).same erM_le
    refine ⟨_, rfl, v, a, rfl, hv2, ok.few, fun v' H3 s3 hv' => ?_⟩
    exact k v' H3 (k2.trans (Same.ks s3)) (m2.same s3) (R2.same s3) (m2.act s3 hv')
theorem sc_Road_redo : FnScope ["self", "action"] ["self"] (defScope s_Road_redo) := ⟨rfl, rfl, rfl, by decide +kernel, rfl, by decide +kernel, by decide +kernel⟩
theorem ok_Road_redo {C : Addr} {f : Addr} {fd : FuncData} (F : Fun K "redo" "Road.redo" s_Road_redo f fd) (B : Blt mg) (T : ClRo K mg C) (C_copied_action : Cal P w K mg base 4 "copied_action" (sp_copied_action K)) : FnOk P w K mg base CX0 5 f fd ["self"] (sp_redo K C) := by
  refine F.ok sc_Road_redo (fun vs H Q E h => ?_) (fun cdv A outer s H vs Q E hr h => ?_)
  · obtain ⟨r, D, T0, p, q, as, bs, a, M, rfl, _⟩ := h
    rfl
  · obtain ⟨r, D, T0, p, q, as, bs, a, M, rfl, R, mok, few, ok, lg, k⟩ := h
    have nd := sc_Road_redo.nd
    obtain ⟨dx, hr0⟩ := R.ob
    obtain ⟨xs, hD, hA⟩ := R.dn
    obtain ⟨ys, hT, hB⟩ := R.tb
    obtain ⟨zs, v, rfl, hZ, hv⟩ := acts_put hB
    have lz := hZ.len
    have ly := hA.len
    have f1 := R.fewB
    rw [List.length_append] at f1
    have rD : r ≠ T0 := ne_of hr0 hT (by intro z; cases z)
    refine ⟨_, (pss_cons (ps_if (pt_not (pt_truth (pe_fld (pv 0) rfl) (by intro _; rfl)))
      (pss_one ps_never)
      pss_nil)
    (pss_cons (ps_set (i := 1) nd rfl (.inl rfl) (pe_bm0 PySem.F.plainAttrs_list PySem.F.slot_list_pop PySem.F.type_list_pop mt_pop (pe_fld (pv 0) rfl)))
    (pss_cons (ps_expr (pe_bm PySem.F.plainAttrs_list PySem.F.slot_list_append PySem.F.type_list_append mt_append (pe_fld (pv 0) rfl) (pa_cons (pv 1) pa_nil)))
    (pss_one (ps_ret (pe_c C_copied_action hr (by decide) (by rfl) (pa_cons (pv 1) pa_nil))))))), ?_⟩
    refine ⟨_, rfl, r, C, dx, _, _, rfl, hr0, T.cl, T.nt, ro_taken _ _ _, true, .inl ⟨_, SqL.of hT, by simp⟩, iteF ?_⟩
    refine ⟨_, rfl, r, C, dx, _, _, rfl, hr0, T.cl, T.nt, ro_taken _ _ _, .inl ⟨rfl, _, SqL.of hT⟩, T0, _, v, rfl, rfl, hT, by simp, ?_⟩
    rw [List.dropLast_concat]
    have hr1 : upd H T0 (.lst zs) r = some (.ins C dx (roF q D T0)) := by rw [upd_ne rD]; exact hr0
    have hD1 : upd H T0 (.lst zs) D = some (.lst xs) := by rw [upd_ne R.ne]; exact hD
    refine ⟨_, rfl, r, C, dx, _, _, rfl, hr1, T.cl, T.nd, ro_done _ _ _, .inl ⟨rfl, _, SqL.of hD1⟩, _, rfl, D, xs, _, rfl, rfl, hD1, sl_lt (by omega), ?_⟩
    obtain ⟨H2, eH2⟩ : ∃ X, X = upd (upd H T0 (.lst zs)) D (.lst (xs ++ [v])) := ⟨_, rfl⟩
    rw [← eH2]
    have k2 : Kst (Own2 D T0) H H2 := fun b o nb e => by
      rw [eH2, upd_ne fun z => nb (.inl z), upd_ne fun z => nb (.inr z)]
      exact e
    have hT2 : H2 T0 = some (.lst zs) := by rw [eH2, upd_ne R.ne.symm]; exact upd_same
    have hD2 : H2 D = some (.lst (xs ++ [v])) := by rw [eH2]; exact upd_same
    have m2 := mok.own k2 hD hT ⟨_, hD2⟩ ⟨_, hT2⟩
    have R2 : RoadAt K C M H2 r D T0 q (as ++ [a]) bs := R.shift hr0 k2 hD2 hT2 (paired_app hA (.cons hv .nil)) hZ (by rw [List.length_append]; show as.length + 1 ≤ 1000; omega) (by have : [a].length = 1 := rfl; omega) lg
    have own : ∀ b, Own2 D T0 b → M b := fun b z => z.elim (fun e => e ▸ R.mD) fun e => e ▸ R.mT
    have hv2 : ActV K H2 v a := (hv.same (k2.sub own).er).same erM_le
    refine ⟨_, rfl, v, a, rfl, hv2, ok.few, fun v' H3 s3 hv' => ?_⟩
    exact k v' H3 (k2.trans (Same.ks s3)) (m2.same s3) (R2.same s3) (m2.act s3 hv')
theorem ok_Road_undoN {C CN : Addr} {f : Addr} {fd : FuncData} (F : Fun K "undo" "Road.undo" s_Road_undo f fd) (B : Blt mg) (T : ClRo K mg C) (NZ : LeftF P w K mg base CN) (C_copied_action : Cal P w K mg base 4 "copied_action" (sp_copied_action K)) : FnOk P w K mg base (L2.CX P w) 5 f fd ["self"] (sp_undoN K C CN) := by
  refine F.okX sc_Road_undo (fun vs H Q E h => ?_) (fun cdv A outer s H vs Q E hr h => ?_)
  · obtain ⟨r, D, T0, q, bs, M, rfl, _⟩ := h
    rfl
  · obtain ⟨r, D, T0, q, bs, M, rfl, R, k⟩ := h
    have nd := sc_Road_undo.nd
    have tk := takes_of (X := cxOf (L2.CX P w) P w K mg base ["self", "action"] "Road.undo" (defScope s_Road_undo) f cdv A outer ‹Shared› H E) rfl rfl rfl rfl
    obtain ⟨dx, hr0⟩ := R.ob
    obtain ⟨xs, hD, hA⟩ := R.dn
    cases hA
    refine ⟨_, (pss_cons (ps_if (pt_not (pt_truth (pe_fld (pv 0) rfl) (by intro _; rfl)))
      (pss_one (ps_raiseF NZ rfl tk hr (by decide) (by rfl) (pa_cons pe_str pa_nil)))
      pss_nil)
    (pss_cons (ps_set (i := 1) nd rfl (.inl rfl) (pe_bm0 PySem.F.plainAttrs_list PySem.F.slot_list_pop PySem.F.type_list_pop mt_pop (pe_fld (pv 0) rfl)))
    (pss_cons (ps_expr (pe_bm PySem.F.plainAttrs_list PySem.F.slot_list_append PySem.F.type_list_append mt_append (pe_fld (pv 0) rfl) (pa_cons (pv 1) pa_nil)))
    (pss_one (ps_ret (pe_c C_copied_action hr (by decide) (by rfl) (pa_cons (pv 1) pa_nil))))))), ?_⟩
    refine ⟨_, rfl, r, C, dx, _, _, rfl, hr0, T.cl, T.nd, ro_done _ _ _, false, .inl ⟨_, SqL.of hD, rfl⟩, iteT ?_⟩
    exact ⟨_, rfl, fun d nd => k d nd⟩
theorem ok_Road_redoN {C CN : Addr} {f : Addr} {fd : FuncData} (F : Fun K "redo" "Road.redo" s_Road_redo f fd) (B : Blt mg) (T : ClRo K mg C) (NZ : LeftF P w K mg base CN) (C_copied_action : Cal P w K mg base 4 "copied_action" (sp_copied_action K)) : FnOk P w K mg base (L2.CX P w) 5 f fd ["self"] (sp_redoN K C CN) := by
  refine F.okX sc_Road_redo (fun vs H Q E h => ?_) (fun cdv A outer s H vs Q E hr h => ?_)
  · obtain ⟨r, D, T0, q, bs, M, rfl, _⟩ := h
    rfl
  · obtain ⟨r, D, T0, q, bs, M, rfl, R, k⟩ := h
    have nd := sc_Road_redo.nd
    have tk := takes_of (X := cxOf (L2.CX P w) P w K mg base ["self", "action"] "Road.redo" (defScope s_Road_redo) f cdv A outer ‹Shared› H E) rfl rfl rfl rfl
    obtain ⟨dx, hr0⟩ := R.ob
    obtain ⟨xs, hD, hA⟩ := R.tb
    cases hA
    refine ⟨_, (pss_cons (ps_if (pt_not (pt_truth (pe_fld (pv 0) rfl) (by intro _; rfl)))
      (pss_one (ps_raiseF NZ rfl tk hr (by decide) (by rfl) (pa_cons pe_str pa_nil)))
      pss_nil)
    (pss_cons (ps_set (i := 1) nd rfl (.inl rfl) (pe_bm0 PySem.F.plainAttrs_list PySem.F.slot_list_pop PySem.F.type_list_pop mt_pop (pe_fld (pv 0) rfl)))
    (pss_cons (ps_expr (pe_bm PySem.F.plainAttrs_list PySem.F.slot_list_append PySem.F.type_list_append mt_append (pe_fld (pv 0) rfl) (pa_cons (pv 1) pa_nil)))
    (pss_one (ps_ret (pe_c C_copied_action hr (by decide) (by rfl) (pa_cons (pv 1) pa_nil))))))), ?_⟩
    refine ⟨_, rfl, r, C, dx, _, _, rfl, hr0, T.cl, T.nt, ro_taken _ _ _, false, .inl ⟨_, SqL.of hD, rfl⟩, iteT ?_⟩
    exact ⟨_, rfl, fun d nd => k d nd⟩
theorem sc_Road_actions : FnScope ["self", "action"] ["self"] (defScope s_Road_actions) := ⟨rfl, rfl, rfl, by decide +kernel, rfl, by decide +kernel, by decide +kernel⟩
theorem ok_Road_actions {C : Addr} {f : Addr} {fd : FuncData} (F : Fun K "actions" "Road.actions" s_Road_actions f fd) (B : Blt mg) (T : ClRo K mg C) (C_copied_action : Cal P w K mg base 4 "copied_action" (sp_copied_action K)) : FnOk P w K mg base CX0 5 f fd ["self"] (sp_actions K C) := by
  refine F.ok sc_Road_actions (fun vs H Q E h => ?_) (fun cdv A outer s H vs Q E hr h => ?_)
  · obtain ⟨r, D, T0, q, as, bs, M, rfl, _⟩ := h
    rfl
  · obtain ⟨r, D, T0, q, as, bs, M, rfl, R, k⟩ := h
    have nd := sc_Road_actions.nd
    obtain ⟨dx, hr0⟩ := R.ob
    obtain ⟨xs, hD, hA⟩ := R.dn
    have hA0 : ActVs K H xs as := hA.same erM_le
    have la := hA.len
    have lf := R.fewA
    refine ⟨_, (pss_one (ps_ret (pe_lc (own := [("action", 1)]) (by rfl) nd (pi_list (pe_fld (pv 0) rfl)) (blkOk_by (N := ["self", "action"]) (sc := defScope s_Road_actions) (own := [("action", 1)]) (by decide +kernel)) (fun _ _ _ _ _ => (pg_name (i := 1) nd rfl (.inl rfl))) (fun _ _ _ _ _ => pts_nil) (fun _ _ _ _ _ => (pe_c C_copied_action hr (by decide) (by rfl) (pa_cons (pv 1) pa_nil)))))), ?_⟩
    dsimp only [tAsg, tRet]
    have few2 : ∀ n d b, Act.run n d b ∈ as → dpP b < 3 ∧ cnP b ≤ 1000 := fun n d b hm => by
      obtain ⟨j, hj⟩ := List.getElem?_of_mem hm
      have ok := R.lg j _ hj
      exact ⟨ok.2.1.dp, Nat.le_trans ok.2.1.cn (by decide)⟩
    refine ⟨_, rfl, r, C, dx, _, _, rfl, hr0, T.cl, T.nd, ro_done _ _ _, D, rfl, ⟨_, SqL.of hD⟩, fun L nL => lc_list (K := K) (a := D) (xs := xs) (fun m H2 => Same H H2 ∧ ∃ ys, H2 L = some (.lst ys) ∧ ActVs K (er1 L (er H H2)) ys (as.take m)) ⟨same_new nL, [], upd_same, by rw [List.take_zero]; exact .nil⟩ (fun m H2 _ g => SqL.of (g.1 _ _ hD)) ?_ ?_⟩
    · rintro m x H2 hm ⟨s2, ys, hL, hY⟩
      obtain ⟨a, ha, hx⟩ := hA0.get hm
      have ml : m < as.length := (List.getElem?_eq_some_iff.mp ha).1
      have yl := hY.len
      rw [List.length_take] at yl
      refine ⟨rfl, _, rfl, x, a, rfl, hx.same s2, fun n d b e => few2 n d b (e ▸ List.mem_of_getElem? ha), fun v' H3 s3 hv' => ?_⟩
      refine ⟨ys, s3 _ _ hL, sl_lt (by omega), same_mut (s2.trans s3) nL, _, upd_same, ?_⟩
      rw [take_snoc ha]
      exact ActVs.app (hY.same ((er1_sameS s3).trans er1_updS)) (.cons (hv'.same ((er_inS s2 hL).trans er1_updS)) .nil)
    · rintro H2 ⟨s2, ys, hL, hY⟩
      rw [la, List.take_length] at hY
      exact k L ys H2 s2 nL hL hY
structure RoRaw (K : PySem.W.Frag) (mg : Str → Option Value) (C : Addr) : Prop where
  cl : ClRo K mg C
  mkr : ∃ f fd, Mk K C f ∧ Fun K "__init__" "Road.__init__" s_Road___init__ f fd
  z : EqC K C
  m_perform : DfM K C "perform" "Road.perform" s_Road_perform
  m_has_walker : DfM K C "has_walker" "Road.has_walker" s_Road_has_walker
  m_enter : DfM K C "enter" "Road.enter" s_Road_enter
  m_run : DfM K C "run" "Road.run" s_Road_run
  m_undo : DfM K C "undo" "Road.undo" s_Road_undo
  m_redo : DfM K C "redo" "Road.redo" s_Road_redo
  m_actions : DfM K C "actions" "Road.actions" s_Road_actions
  m___eq__ : DfM K C "__eq__" "Road.__eq__" s_Road___eq__
theorem mkRo_of {C : Addr} (R : RoRaw K mg C) : MkF P w K mg base "Road" C 1 (sp_road C) := ⟨by
  obtain ⟨f, fd, M, F⟩ := R.mkr
  exact ⟨f, fd, ["self", "prime"], M, ok_Road___init__ F R.cl, F.binds fun _ _ _ _ _ _ us hl => match us, hl with | [_, _], _ => rfl⟩, R.cl.gl⟩
theorem sc_is_whole : FnScope ["value"] ["value"] (defScope s_is_whole) := ⟨rfl, rfl, rfl, by decide +kernel, rfl, by decide +kernel, by decide +kernel⟩
theorem ok_is_whole {f : Addr} {fd : FuncData} (F : Fun K "is_whole" "is_whole" s_is_whole f fd) (B : Blt mg) : FnOk P w K mg base CX0 1 f fd ["value"] (sp_is_whole K) := by
  refine F.ok sc_is_whole (fun vs H Q E h => ?_) (fun cdv A outer s H vs Q E hr h => ?_)
  · obtain ⟨v, d, rfl, _⟩ := h
    rfl
  · obtain ⟨v, d, rfl, hd, k⟩ := h
    refine ⟨_, (pss_one (ps_ret (pe_and (pe_callB call_isi (by rfl) B.isinstance (by decide +kernel) (pa_cons (pv 0) (pa_cons (pe_bltn (v := .ty "int") (u := .type "int") (by rfl) B.int (by decide +kernel) rfl) pa_nil))) (pe_one (pe_not (pe_callB call_isi (by rfl) B.isinstance (by decide +kernel) (pa_cons (pv 0) (pa_cons (pe_bltn (v := .ty "bool") (u := .type "bool") (by rfl) B.bool (by decide +kernel) rfl) pa_nil)))))))), ?_⟩
    refine ⟨_, rfl, v, .ty "int", _, _, _, rfl, .ty "int", DpX.ty hd, kit_int d, _, rfl, ?_⟩
    refine ite2 (fun h => ?_) (fun h => ?_)
    · refine ⟨_, rfl, v, .ty "bool", _, _, _, rfl, .ty "bool", DpX.ty hd, kit_bool d, _, rfl, ?_⟩
      have e : (!isBool d) = isWhole d := by
        cases d <;> first | rfl | cases h
      rw [e]
      exact k
    · have e : isWhole d = false := by
        cases d <;> first | rfl | exact absurd rfl h
      rw [e] at k
      exact k
theorem sc_is_count : FnScope ["value"] ["value"] (defScope s_is_count) := ⟨rfl, rfl, rfl, by decide +kernel, rfl, by decide +kernel, by decide +kernel⟩
theorem ok_is_count {f : Addr} {fd : FuncData} (F : Fun K "is_count" "is_count" s_is_count f fd) (B : Blt mg) {tk : Tok} (G_GREATEST_COUNT : mg "GREATEST_COUNT" = some (.int 1000000000000000000000000000000 tk)) (C_is_whole : Cal P w K mg base 1 "is_whole" (sp_is_whole K)) : FnOk P w K mg base CX0 2 f fd ["value"] (sp_is_count K) := by
  refine F.ok sc_is_count (fun vs H Q E h => ?_) (fun cdv A outer s H vs Q E hr h => ?_)
  · obtain ⟨z, rfl, _⟩ := h
    rfl
  · obtain ⟨z, rfl, hz, k⟩ := h
    have nd := sc_is_count.nd
    refine ⟨_, (pss_one (ps_ret (pe_and (pe_c C_is_whole hr (by decide) (by rfl) (pa_cons (pv 0) pa_nil)) (pe_one (pe_cmpR op_le (pe_callB call_abs (by rfl) B.abs (by decide +kernel) (pa_cons (pv 0) pa_nil)) (pe_glob (v := .int 1000000000000000000000000000000) rfl G_GREATEST_COUNT ⟨_, rfl⟩) (nomark _)))))), ?_⟩
    refine ⟨_, rfl, .int z, .int z, rfl, .inl (.int z), _, rfl, ?_⟩
    refine (if_pos (show isWhole (.int z) = true from rfl)).mpr ?_
    refine ⟨_, rfl, z, rfl, _, _, rfl, rfl, ?_⟩
    show Q (V.bl (decide ((if z < 0 then -z else z) ≤ 1000000000000000000000000000000))) H
    rw [decide_eq_true (show (if z < 0 then -z else z) ≤ 1000000000000000000000000000000 by split <;> omega)]
    exact k
theorem sc_is_step_or_turn : FnScope ["value"] ["value"] (defScope s_is_step_or_turn) := ⟨rfl, rfl, rfl, by decide +kernel, rfl, by decide +kernel, by decide +kernel⟩
theorem ok_is_step_or_turn {f : Addr} {fd : FuncData} (F : Fun K "is_step_or_turn" "is_step_or_turn" s_is_step_or_turn f fd) (B : Blt mg) (C_is_count : Cal P w K mg base 2 "is_count" (sp_is_count K)) : FnOk P w K mg base CX0 3 f fd ["value"] (sp_is_step_or_turn K) := by
  refine F.ok sc_is_step_or_turn (fun vs H Q E h => ?_) (fun cdv A outer s H vs Q E hr h => ?_)
  · obtain ⟨v, i, rfl, _⟩ := h
    rfl
  · obtain ⟨v, i, rfl, hv, hc, k⟩ := h
    have nd := sc_is_step_or_turn.nd
    refine ⟨_, (pss_cons (ps_if (PW.pt (pw_or (pt_not (pt_val (pe_callB call_isi (by rfl) B.isinstance (by decide +kernel) (pa_cons (pv 0) (pa_cons (pe_bltn (v := .ty "tuple") (u := .type "tuple") (by rfl) B.tuple (by decide +kernel) rfl) pa_nil))))) (pw_or1 (pt_cmpR op_ne (pe_callB call_len_seq (by rfl) B.len (by decide +kernel) (pa_cons (pv 0) pa_nil)) pe_int (nomark _)))))
      (pss_one (ps_ret pe_bl))
      pss_nil)
    (pss_one (ps_ret (pe_and (pe_cmpR op_in_seq (pe_ix ix_tup (pv 0) pe_int (fun _ _ => rfl)) (pe_tup (pa_cons pe_str (pa_cons pe_str pa_nil))) rfl) (pe_one (pe_c C_is_count hr (by decide) (by rfl) (pa_cons (pe_ix ix_tup (pv 0) pe_int (fun _ _ => rfl)) pa_nil))))))), ?_⟩
    obtain ⟨d, hd, hi⟩ := id hv
    rcases hv.inv with ⟨a, c, rfl, hs, rfl⟩ | ⟨a, c, rfl, hs, rfl⟩ | ⟨a, n, y, bb, rfl, hs, hp, rfl⟩
    · rw [CI] at hc
      have ht : isTup d = true := by cases hi; rfl
      refine ⟨_, rfl, .ref a, .ty "tuple", _, _, _, rfl, .ty "tuple", Dp.ty hd, kit_tuple d, _, rfl, ?_⟩
      rw [ht]
      refine iteF ?_
      refine ⟨_, rfl, a, _, rfl, .inr hs, rfl, _, rfl, ?_⟩
      refine iteNF rfl ?_
      refine ⟨_, rfl, a, _, 0, _, rfl, rfl, hs, rfl, sl_of (show 2 ≤ 1000000 by decide), fun T nT => ?_⟩
      have z := same_new nT (o := HO.tup [V.str "step", V.str "turn"])
      refine ⟨T, _, rfl, .inr (SqT.of upd_same), rfl, rfl, _, rfl, ?_⟩
      refine (if_pos (show (if false = true then !inV (V.str "step") [V.str "step", V.str "turn"] else inV (V.str "step") [V.str "step", V.str "turn"]) = true by decide +kernel)).mpr ?_
      refine ⟨_, rfl, a, _, 1, _, rfl, rfl, same_t z hs, rfl, c, rfl, hc, ?_⟩
      exact k _ z
    · rw [CI] at hc
      have ht : isTup d = true := by cases hi; rfl
      refine ⟨_, rfl, .ref a, .ty "tuple", _, _, _, rfl, .ty "tuple", Dp.ty hd, kit_tuple d, _, rfl, ?_⟩
      rw [ht]
      refine iteF ?_
      refine ⟨_, rfl, a, _, rfl, .inr hs, rfl, _, rfl, ?_⟩
      refine iteNF rfl ?_
      refine ⟨_, rfl, a, _, 0, _, rfl, rfl, hs, rfl, sl_of (show 2 ≤ 1000000 by decide), fun T nT => ?_⟩
      have z := same_new nT (o := HO.tup [V.str "step", V.str "turn"])
      refine ⟨T, _, rfl, .inr (SqT.of upd_same), rfl, rfl, _, rfl, ?_⟩
      refine (if_pos (show (if false = true then !inV (V.str "turn") [V.str "step", V.str "turn"] else inV (V.str "turn") [V.str "step", V.str "turn"]) = true by decide +kernel)).mpr ?_
      refine ⟨_, rfl, a, _, 1, _, rfl, rfl, same_t z hs, rfl, c, rfl, hc, ?_⟩
      exact k _ z
    · have ht : isTup d = true := by cases hi; rfl
      refine ⟨_, rfl, .ref a, .ty "tuple", _, _, _, rfl, .ty "tuple", Dp.ty hd, kit_tuple d, _, rfl, ?_⟩
      rw [ht]
      refine iteF ?_
      refine ⟨_, rfl, a, _, rfl, .inr hs, rfl, _, rfl, ?_⟩
      refine iteNN (fun z => absurd (V.int.inj z) (show ¬ ((3 : Nat) : Int) = 2 by decide)) ?_
      exact k H (Same.refl H)
theorem sc_begins_as_repeat : FnScope ["value"] ["value"] (defScope s_begins_as_repeat) := ⟨rfl, rfl, rfl, by decide +kernel, rfl, by decide +kernel, by decide +kernel⟩
theorem ok_begins_as_repeat {f : Addr} {fd : FuncData} (F : Fun K "begins_as_repeat" "begins_as_repeat" s_begins_as_repeat f fd) (B : Blt mg) (C_is_count : Cal P w K mg base 2 "is_count" (sp_is_count K)) : FnOk P w K mg base CX0 3 f fd ["value"] (sp_begins_as_repeat K) := by
  refine F.ok sc_begins_as_repeat (fun vs H Q E h => ?_) (fun cdv A outer s H vs Q E hr h => ?_)
  · obtain ⟨v, n, bb, rfl, _⟩ := h
    rfl
  · obtain ⟨v, n, bb, rfl, hv, h0, h9, k⟩ := h
    have nd := sc_begins_as_repeat.nd
    refine ⟨_, (pss_cons (ps_if (PW.pt (pw_or (pt_not (pt_val (pe_callB call_isi (by rfl) B.isinstance (by decide +kernel) (pa_cons (pv 0) (pa_cons (pe_bltn (v := .ty "tuple") (u := .type "tuple") (by rfl) B.tuple (by decide +kernel) rfl) pa_nil))))) (pw_or1 (pt_cmpR op_ne (pe_callB call_len_seq (by rfl) B.len (by decide +kernel) (pa_cons (pv 0) pa_nil)) pe_int (nomark _)))))
      (pss_one (ps_ret pe_bl))
      pss_nil)
    (pss_one (ps_ret (pe_and (pe_cmpR op_eq (pe_ix ix_tup (pv 0) pe_int (fun _ _ => rfl)) pe_str (nomark _)) (pe_and (pe_c C_is_count hr (by decide) (by rfl) (pa_cons (pe_ix ix_tup (pv 0) pe_int (fun _ _ => rfl)) pa_nil)) (pe_one (pe_cmpR op_ge (pe_ix ix_tup (pv 0) pe_int (fun _ _ => rfl)) pe_int (nomark _)))))))), ?_⟩
    obtain ⟨d, hd, hi⟩ := id hv
    rcases hv.inv with ⟨a, c, rfl, hs, e⟩ | ⟨a, c, rfl, hs, e⟩ | ⟨a, n', y, bb', rfl, hs, hp, e⟩
    · cases e
    · cases e
    · cases e
      have ht : isTup d = true := by cases hi; rfl
      refine ⟨_, rfl, .ref a, .ty "tuple", _, _, _, rfl, .ty "tuple", Dp.ty hd, kit_tuple d, _, rfl, ?_⟩
      rw [ht]
      refine iteF ?_
      refine ⟨_, rfl, a, _, rfl, .inr hs, rfl, _, rfl, ?_⟩
      refine iteNF rfl ?_
      refine ⟨_, rfl, a, _, 0, _, rfl, rfl, hs, rfl, rfl, _, rfl, iteS rfl ?_⟩
      refine ⟨_, rfl, a, _, 1, _, rfl, rfl, hs, rfl, n, rfl, by omega, _, rfl, iteT ?_⟩
      refine ⟨_, rfl, a, _, 1, _, rfl, rfl, hs, rfl, _, _, rfl, rfl, ?_⟩
      show Q (V.bl (decide (n ≥ 0))) H
      rw [decide_eq_true (show n ≥ 0 by omega)]
      exact k
theorem sc_sizes_of : FnScope ["value", "depth", "instructions", "repeats", "instruction", "inner"] ["value", "depth"] (defScope s_sizes_of) := ⟨rfl, rfl, rfl, by decide +kernel, rfl, by decide +kernel, by decide +kernel⟩
theorem ok_sizes_of (k : Nat) (C_sizes_of : Cal P w K mg base (k + 3) "sizes_of" (sp_sizes_of K k)) {f : Addr} {fd : FuncData} (F : Fun K "sizes_of" "sizes_of" s_sizes_of f fd) (B : Blt mg) {tk1 tk2 : Tok} (G_MOST_INSTRUCTIONS : mg "MOST_INSTRUCTIONS" = some (.int 100 tk1)) (G_MOST_REPEATS : mg "MOST_REPEATS" = some (.int 5 tk2)) (C_is_step_or_turn : Cal P w K mg base 3 "is_step_or_turn" (sp_is_step_or_turn K)) (C_begins_as_repeat : Cal P w K mg base 3 "begins_as_repeat" (sp_begins_as_repeat K)) : FnOk P w K mg base CX0 (k + 3 + 1) f fd ["value", "depth"] (sp_sizes_of K (k + 1)) := by
  refine F.ok sc_sizes_of (fun vs H Q E h => ?_) (fun cdv A outer s H vs Q E hr h => ?_)
  · obtain ⟨v, d, b, rfl, _⟩ := h
    rfl
  · obtain ⟨v, d, b, rfl, hv, hk, hk3, hd0, hd2, hcp, hnp, hrp, hcn, hsd, q⟩ := h
    have nd := sc_sizes_of.nd
    obtain ⟨a, xs, rfl, hsq, hI⟩ := hv.inv
    have lb := len_cnP b
    have lx := hI.len
    obtain ⟨ds, dall, isall⟩ := hI.all
    rcases hsq with hs | hs
    · refine ⟨_, (pss_cons (ps_if (pt_not (pt_val (pe_callB call_isiT (by rfl) B.isinstance (by decide +kernel) (pa_cons (pv 0) (pa_cons (pe_tup (pa_cons (pe_bltn (v := .ty "list") (u := .type "list") (by rfl) B.list (by decide +kernel) rfl) (pa_cons (pe_bltn (v := .ty "tuple") (u := .type "tuple") (by rfl) B.tuple (by decide +kernel) rfl) pa_nil))) pa_nil)))))
      (pss_one (ps_ret pe_non))
      pss_nil)
    (pss_cons (ps_set (i := 2) nd rfl (.inl rfl) (pe_callB call_len_seq (by rfl) B.len (by decide +kernel) (pa_cons (pv 0) pa_nil)))
    (pss_cons (ps_set (i := 3) nd rfl (.inl rfl) pe_int)
    (pss_cons (ps_for PassesOwn.never rfl (pi_list (pv 0)) (pg_name (i := 4) nd rfl (.inl rfl))
      (pss_cons (ps_if (PW.pt (pw_or (pt_cmpR op_gt (pv 2) (pe_glob (v := .int 100) rfl G_MOST_INSTRUCTIONS ⟨_, rfl⟩) (nomark _)) (pw_or1 (pt_cmpR op_gt (pv 3) (pe_glob (v := .int 5) rfl G_MOST_REPEATS ⟨_, rfl⟩) (nomark _)))))
      (pss_one (ps_ret pe_non))
      pss_nil)
    (pss_cons (ps_if (pt_val (pe_c C_is_step_or_turn hr (by omega) (by rfl) (pa_cons (pv 4) pa_nil)))
      (pss_one ps_continue)
      pss_nil)
    (pss_cons (ps_if (PW.pt (pw_or (pt_cmpR op_eq (pv 1) pe_int (nomark _)) (pw_or1 (pt_not (pt_val (pe_c C_begins_as_repeat hr (by omega) (by rfl) (pa_cons (pv 4) pa_nil)))))))
      (pss_one (ps_ret pe_non))
      pss_nil)
    (pss_cons (ps_set (i := 5) nd rfl (.inl rfl) (pe_c C_sizes_of hr (by omega) (by rfl) (pa_cons (pe_ix ix_tup (pv 4) pe_int (fun _ _ => rfl)) (pa_cons (pe_op op_sub (pv 1) pe_int) pa_nil))))
    (pss_cons (ps_if (pt_cmpR op_isN (pv 5) pe_non (nomark _))
      (pss_one (ps_ret pe_non))
      pss_nil)
    (pss_cons (ps_aug (i := 2) nd rfl (.inl rfl) (pe_ix ix_tup (pv 5) pe_int (fun _ _ => rfl)) ip_add)
    (pss_one (ps_aug (i := 3) nd rfl (.inl rfl) (pe_op op_add pe_int (pe_ix ix_tup (pv 5) pe_int (fun _ _ => rfl))) ip_add)))))))))
    (pss_cons (ps_if (PW.pt (pw_or (pt_cmpR op_gt (pv 2) (pe_glob (v := .int 100) rfl G_MOST_INSTRUCTIONS ⟨_, rfl⟩) (nomark _)) (pw_or1 (pt_cmpR op_gt (pv 3) (pe_glob (v := .int 5) rfl G_MOST_REPEATS ⟨_, rfl⟩) (nomark _)))))
      (pss_one (ps_ret pe_non))
      pss_nil)
    (pss_one (ps_ret (pe_tup (pa_cons (pv 2) (pa_cons (pv 3) pa_nil)))))))))), ?_⟩
      have dX : Dp K H (.ref a) (.list ds) := .lst hs dall
      refine ⟨_, rfl, sl_of (show 2 ≤ 1000000 by decide), fun T0 nT0 => ?_⟩
      have s1 := same_new nT0 (o := HO.tup [V.ty "list", V.ty "tuple"])
      refine ⟨.ref a, T0, _, _, _, true, rfl, upd_same, .cons (.ty "list") (.cons (.ty "tuple") .nil), Dp.ty (Dp.same s1 dX), ?_, _, rfl, iteF ?_⟩
      · exact kitAny_cons (b := true) (r := true) (kit_ty (show kitB "list" "list" = some true by decide +kernel)) (fun z => by cases z) (fun _ => rfl)
      have hs := same_l s1 hs
      have hI := hI.same s1
      generalize upd H T0 (HO.tup [V.ty "list", V.ty "tuple"]) = H1 at s1 hs hI ⊢
      refine ⟨_, rfl, a, _, rfl, .inl hs, ?_⟩
      refine ⟨_, rfl, a, rfl, ⟨_, hs⟩, for_list (K := K) (a := a) (xs := xs) (fun j σ H2 => ∃ (y4 y5 : Option V), σ = [some (.ref a), some (.int d), some (.int ((cnP (b.take j) + (b.length - j) : Nat) : Int)), some (.int ((sdP (b.take j)).length : Int)), y4, y5] ∧ Same H1 H2) ⟨none, none, ?_, Same.refl _⟩ ?_ ?_ ?_⟩
      · rw [List.take_zero, show cnP [] = 0 by rw [cnP], sdP_nil, lx]
        simp
        rfl
      · rintro j σ H2 _ ⟨_, _, _, s2⟩
        exact same_l s2 hs
      · rintro j x σ H2 hj ⟨y4, y5, rfl, s2⟩
        obtain ⟨i, hi, hx0⟩ := hI.get hj
        have hm := List.mem_of_getElem? hi
        have hjl : j < b.length := (List.getElem?_eq_some_iff.mp hi).1
        have ts := take_snoc hi
        have splitb := List.take_append_drop (j + 1) b
        have cnb : cnP (b.take (j + 1)) + cnP (b.drop (j + 1)) = cnP b := by rw [← cnP_app, splitb]
        have sdb : (sdP (b.take (j + 1))).length + (sdP (b.drop (j + 1))).length = (sdP b).length := by rw [← List.length_append, ← sdP_app, splitb]
        have lend := len_cnP (b.drop (j + 1))
        rw [List.length_drop] at lend
        have cni : cnP (b.take (j + 1)) = cnP (b.take j) + cnI i := by
          rw [ts, cnP_app, cnP_cons, show cnP [] = 0 by rw [cnP]]
          omega
        have sdi : (sdP (b.take (j + 1))).length = (sdP (b.take j)).length + (sdI i).length := by
          rw [ts, sdP_app, sdP_one, List.length_append]
        have cpos := cnI_pos i
        refine ⟨_, rfl, _, 100, rfl, rfl, _, rfl, iteN (by omega) ?_⟩
        refine ⟨_, rfl, _, 5, rfl, rfl, _, rfl, iteN (by omega) ?_⟩
        have hx := hx0.same s2
        have ci := CP_mem hcp hm
        refine ⟨_, rfl, x, i, rfl, hx, ci, fun H3 s3 => ⟨_, rfl, ?_⟩⟩
        have s23 := s2.trans s3
        rcases (hx0.same s23).inv with ⟨e, c, rfl, ht0, rfl⟩ | ⟨e, c, rfl, ht0, rfl⟩ | ⟨e, c, y, bb, rfl, ht0, hy0, rfl⟩
        · refine iteT ?_
          rw [cnI] at cni
          rw [sdI] at sdi
          exact ⟨some (.ref e), y5, by rw [cni, sdi, show cnP (b.take j) + 1 + (b.length - (j + 1)) = cnP (b.take j) + (b.length - j) by omega]; rfl, s23⟩
        · refine iteT ?_
          rw [cnI] at cni
          rw [sdI] at sdi
          exact ⟨some (.ref e), y5, by rw [cni, sdi, show cnP (b.take j) + 1 + (b.length - (j + 1)) = cnP (b.take j) + (b.length - j) by omega]; rfl, s23⟩
        · refine iteF ?_
          have di := dpP_mem hm
          rw [dpI] at di
          have ni := NP_mem hnp hm
          rw [NI] at ni
          have ri := RP_mem hrp hm
          rw [RI] at ri
          rw [CI] at ci
          rw [cnI] at cni
          rw [sdI, List.length_cons] at sdi
          refine ⟨_, rfl, rfl, _, rfl, iteN (fun z => absurd (V.int.inj z) (by omega)) ?_⟩
          refine ⟨_, rfl, .ref e, c, bb, rfl, hx0.same s23, ni.1, ri.1, _, rfl, iteF ?_⟩
          refine ⟨_, rfl, e, _, 2, _, rfl, rfl, ht0, rfl, _, rfl, _, _, rfl, rfl, y, d - 1, bb, rfl, hy0, by omega, by omega, by omega, by omega, ci, ni.2, ri.2, by omega, by omega, fun T H4 s4 hT => ?_⟩
          refine ⟨_, rfl, rfl, _, rfl, iteN (fun z => by cases z) ?_⟩
          refine ⟨_, rfl, _, rfl, T, _, 0, _, rfl, rfl, hT, rfl, _, _, rfl, rfl, ?_⟩
          refine ⟨_, rfl, _, rfl, T, _, 1, _, rfl, rfl, hT, rfl, _, _, rfl, rfl, _, _, rfl, rfl, ?_⟩
          refine ⟨some (.ref e), some (.ref T), ?_, s23.trans s4⟩
          rw [cni, sdi]
          have e1 : ((cnP (b.take j) + (cnP bb + 1) + (b.length - (j + 1)) : Nat) : Int) = ((cnP (b.take j) + (b.length - j) : Nat) : Int) + (cnP bb : Int) := by omega
          have e2 : (((sdP (b.take j)).length + ((sdP bb).length + 1) : Nat) : Int) = ((sdP (b.take j)).length : Int) + (1 + ((sdP bb).length : Int)) := by omega
          rw [e1, e2]
          rfl
      · rintro σ H2 ⟨y4, y5, rfl, s2⟩
        rw [hI.len, List.take_length, Nat.sub_self, Nat.add_zero]
        refine ⟨_, rfl, _, 100, rfl, rfl, _, rfl, iteN (by omega) ?_⟩
        refine ⟨_, rfl, _, 5, rfl, rfl, _, rfl, iteN (by omega) ?_⟩
        refine ⟨_, rfl, _, rfl, sl_of (show 2 ≤ 1000000 by decide), fun T nT => ?_⟩
        exact q T _ (s1.trans (s2.trans (same_new nT))) (SqT.of upd_same)
    · refine ⟨_, (pss_cons (ps_if (pt_not (pt_val (pe_callB call_isiT (by rfl) B.isinstance (by decide +kernel) (pa_cons (pv 0) (pa_cons (pe_tup (pa_cons (pe_bltn (v := .ty "list") (u := .type "list") (by rfl) B.list (by decide +kernel) rfl) (pa_cons (pe_bltn (v := .ty "tuple") (u := .type "tuple") (by rfl) B.tuple (by decide +kernel) rfl) pa_nil))) pa_nil)))))
      (pss_one (ps_ret pe_non))
      pss_nil)
    (pss_cons (ps_set (i := 2) nd rfl (.inl rfl) (pe_callB call_len_seq (by rfl) B.len (by decide +kernel) (pa_cons (pv 0) pa_nil)))
    (pss_cons (ps_set (i := 3) nd rfl (.inl rfl) pe_int)
    (pss_cons (ps_for PassesOwn.never rfl (pi_tup (pv 0)) (pg_name (i := 4) nd rfl (.inl rfl))
      (pss_cons (ps_if (PW.pt (pw_or (pt_cmpR op_gt (pv 2) (pe_glob (v := .int 100) rfl G_MOST_INSTRUCTIONS ⟨_, rfl⟩) (nomark _)) (pw_or1 (pt_cmpR op_gt (pv 3) (pe_glob (v := .int 5) rfl G_MOST_REPEATS ⟨_, rfl⟩) (nomark _)))))
      (pss_one (ps_ret pe_non))
      pss_nil)
    (pss_cons (ps_if (pt_val (pe_c C_is_step_or_turn hr (by omega) (by rfl) (pa_cons (pv 4) pa_nil)))
      (pss_one ps_continue)
      pss_nil)
    (pss_cons (ps_if (PW.pt (pw_or (pt_cmpR op_eq (pv 1) pe_int (nomark _)) (pw_or1 (pt_not (pt_val (pe_c C_begins_as_repeat hr (by omega) (by rfl) (pa_cons (pv 4) pa_nil)))))))
      (pss_one (ps_ret pe_non))
      pss_nil)
    (pss_cons (ps_set (i := 5) nd rfl (.inl rfl) (pe_c C_sizes_of hr (by omega) (by rfl) (pa_cons (pe_ix ix_tup (pv 4) pe_int (fun _ _ => rfl)) (pa_cons (pe_op op_sub (pv 1) pe_int) pa_nil))))
    (pss_cons (ps_if (pt_cmpR op_isN (pv 5) pe_non (nomark _))
      (pss_one (ps_ret pe_non))
      pss_nil)
    (pss_cons (ps_aug (i := 2) nd rfl (.inl rfl) (pe_ix ix_tup (pv 5) pe_int (fun _ _ => rfl)) ip_add)
    (pss_one (ps_aug (i := 3) nd rfl (.inl rfl) (pe_op op_add pe_int (pe_ix ix_tup (pv 5) pe_int (fun _ _ => rfl))) ip_add)))))))))
    (pss_cons (ps_if (PW.pt (pw_or (pt_cmpR op_gt (pv 2) (pe_glob (v := .int 100) rfl G_MOST_INSTRUCTIONS ⟨_, rfl⟩) (nomark _)) (pw_or1 (pt_cmpR op_gt (pv 3) (pe_glob (v := .int 5) rfl G_MOST_REPEATS ⟨_, rfl⟩) (nomark _)))))
      (pss_one (ps_ret pe_non))
      pss_nil)
    (pss_one (ps_ret (pe_tup (pa_cons (pv 2) (pa_cons (pv 3) pa_nil)))))))))), ?_⟩
      have dX : Dp K H (.ref a) (.tuple ds) := .tup hs dall
      refine ⟨_, rfl, sl_of (show 2 ≤ 1000000 by decide), fun T0 nT0 => ?_⟩
      have s1 := same_new nT0 (o := HO.tup [V.ty "list", V.ty "tuple"])
      refine ⟨.ref a, T0, _, _, _, true, rfl, upd_same, .cons (.ty "list") (.cons (.ty "tuple") .nil), Dp.ty (Dp.same s1 dX), ?_, _, rfl, iteF ?_⟩
      · exact kitAny_cons (b := false) (r := true) (kit_ty (show kitB "tuple" "list" = some false by decide +kernel)) (fun _ => kitAny_cons (b := true) (r := true) (kit_ty (show kitB "tuple" "tuple" = some true by decide +kernel)) (fun z => by cases z) (fun _ => rfl)) (fun z => by cases z)
      have hs := same_t s1 hs
      have hI := hI.same s1
      generalize upd H T0 (HO.tup [V.ty "list", V.ty "tuple"]) = H1 at s1 hs hI ⊢
      refine ⟨_, rfl, a, _, rfl, .inr hs, ?_⟩
      refine ⟨_, rfl, a, rfl, ⟨_, hs⟩, for_tup (K := K) (a := a) (xs := xs) (fun j σ H2 => ∃ (y4 y5 : Option V), σ = [some (.ref a), some (.int d), some (.int ((cnP (b.take j) + (b.length - j) : Nat) : Int)), some (.int ((sdP (b.take j)).length : Int)), y4, y5] ∧ Same H1 H2) ⟨none, none, ?_, Same.refl _⟩ ?_ ?_ ?_⟩
      · rw [List.take_zero, show cnP [] = 0 by rw [cnP], sdP_nil, lx]
        simp
        rfl
      · rintro j σ H2 _ ⟨_, _, _, s2⟩
        exact same_t s2 hs
      · rintro j x σ H2 hj ⟨y4, y5, rfl, s2⟩
        obtain ⟨i, hi, hx0⟩ := hI.get hj
        have hm := List.mem_of_getElem? hi
        have hjl : j < b.length := (List.getElem?_eq_some_iff.mp hi).1
        have ts := take_snoc hi
        have splitb := List.take_append_drop (j + 1) b
        have cnb : cnP (b.take (j + 1)) + cnP (b.drop (j + 1)) = cnP b := by rw [← cnP_app, splitb]
        have sdb : (sdP (b.take (j + 1))).length + (sdP (b.drop (j + 1))).length = (sdP b).length := by rw [← List.length_append, ← sdP_app, splitb]
        have lend := len_cnP (b.drop (j + 1))
        rw [List.length_drop] at lend
        have cni : cnP (b.take (j + 1)) = cnP (b.take j) + cnI i := by
          rw [ts, cnP_app, cnP_cons, show cnP [] = 0 by rw [cnP]]
          omega
        have sdi : (sdP (b.take (j + 1))).length = (sdP (b.take j)).length + (sdI i).length := by
          rw [ts, sdP_app, sdP_one, List.length_append]
        have cpos := cnI_pos i
        refine ⟨_, rfl, _, 100, rfl, rfl, _, rfl, iteN (by omega) ?_⟩
        refine ⟨_, rfl, _, 5, rfl, rfl, _, rfl, iteN (by omega) ?_⟩
        have hx := hx0.same s2
        have ci := CP_mem hcp hm
        refine ⟨_, rfl, x, i, rfl, hx, ci, fun H3 s3 => ⟨_, rfl, ?_⟩⟩
        have s23 := s2.trans s3
        rcases (hx0.same s23).inv with ⟨e, c, rfl, ht0, rfl⟩ | ⟨e, c, rfl, ht0, rfl⟩ | ⟨e, c, y, bb, rfl, ht0, hy0, rfl⟩
        · refine iteT ?_
          rw [cnI] at cni
          rw [sdI] at sdi
          exact ⟨some (.ref e), y5, by rw [cni, sdi, show cnP (b.take j) + 1 + (b.length - (j + 1)) = cnP (b.take j) + (b.length - j) by omega]; rfl, s23⟩
        · refine iteT ?_
          rw [cnI] at cni
          rw [sdI] at sdi
          exact ⟨some (.ref e), y5, by rw [cni, sdi, show cnP (b.take j) + 1 + (b.length - (j + 1)) = cnP (b.take j) + (b.length - j) by omega]; rfl, s23⟩
        · refine iteF ?_
          have di := dpP_mem hm
          rw [dpI] at di
          have ni := NP_mem hnp hm
          rw [NI] at ni
          have ri := RP_mem hrp hm
          rw [RI] at ri
          rw [CI] at ci
          rw [cnI] at cni
          rw [sdI, List.length_cons] at sdi
          refine ⟨_, rfl, rfl, _, rfl, iteN (fun z => absurd (V.int.inj z) (by omega)) ?_⟩
          refine ⟨_, rfl, .ref e, c, bb, rfl, hx0.same s23, ni.1, ri.1, _, rfl, iteF ?_⟩
          refine ⟨_, rfl, e, _, 2, _, rfl, rfl, ht0, rfl, _, rfl, _, _, rfl, rfl, y, d - 1, bb, rfl, hy0, by omega, by omega, by omega, by omega, ci, ni.2, ri.2, by omega, by omega, fun T H4 s4 hT => ?_⟩
          refine ⟨_, rfl, rfl, _, rfl, iteN (fun z => by cases z) ?_⟩
          refine ⟨_, rfl, _, rfl, T, _, 0, _, rfl, rfl, hT, rfl, _, _, rfl, rfl, ?_⟩
          refine ⟨_, rfl, _, rfl, T, _, 1, _, rfl, rfl, hT, rfl, _, _, rfl, rfl, _, _, rfl, rfl, ?_⟩
          refine ⟨some (.ref e), some (.ref T), ?_, s23.trans s4⟩
          rw [cni, sdi]
          have e1 : ((cnP (b.take j) + (cnP bb + 1) + (b.length - (j + 1)) : Nat) : Int) = ((cnP (b.take j) + (b.length - j) : Nat) : Int) + (cnP bb : Int) := by omega
          have e2 : (((sdP (b.take j)).length + ((sdP bb).length + 1) : Nat) : Int) = ((sdP (b.take j)).length : Int) + (1 + ((sdP bb).length : Int)) := by omega
          rw [e1, e2]
          rfl
      · rintro σ H2 ⟨y4, y5, rfl, s2⟩
        rw [hI.len, List.take_length, Nat.sub_self, Nat.add_zero]
        refine ⟨_, rfl, _, 100, rfl, rfl, _, rfl, iteN (by omega) ?_⟩
        refine ⟨_, rfl, _, 5, rfl, rfl, _, rfl, iteN (by omega) ?_⟩
        refine ⟨_, rfl, _, rfl, sl_of (show 2 ≤ 1000000 by decide), fun T nT => ?_⟩
        exact q T _ (s1.trans (s2.trans (same_new nT))) (SqT.of upd_same)
theorem sc_is_program : FnScope ["value"] ["value"] (defScope s_is_program) := ⟨rfl, rfl, rfl, by decide +kernel, rfl, by decide +kernel, by decide +kernel⟩
theorem ok_is_program {f : Addr} {fd : FuncData} (F : Fun K "is_program" "is_program" s_is_program f fd) (B : Blt mg) {tk : Tok} (G_DEEPEST : mg "DEEPEST" = some (.int 2 tk)) (C_sizes_of : Cal P w K mg base (3 + 3) "sizes_of" (sp_sizes_of K 3)) : FnOk P w K mg base CX0 7 f fd ["value"] (sp_is_program K) := by
  refine F.ok sc_is_program (fun vs H Q E h => ?_) (fun cdv A outer s H vs Q E hr h => ?_)
  · obtain ⟨v, b, rfl, _⟩ := h
    rfl
  · obtain ⟨v, b, rfl, hv, hd, hcp, hnp, hrp, hcn, hsd, k⟩ := h
    have nd := sc_is_program.nd
    refine ⟨_, (pss_one (ps_ret (pe_cmpR op_notN (pe_c C_sizes_of hr (by decide) (by rfl) (pa_cons (pv 0) (pa_cons (pe_glob (v := .int 2) rfl G_DEEPEST ⟨_, rfl⟩) pa_nil))) pe_non (nomark _)))), ?_⟩
    refine ⟨_, rfl, v, 2, b, rfl, hv, hd, by decide, by omega, by decide, hcp, hnp, hrp, hcn, hsd, fun T H' s' hT => ?_⟩
    refine ⟨rfl, ?_⟩
    exact k H' s'
theorem sc_copied : FnScope ["program", "rows", "row"] ["program"] (defScope s_copied) := ⟨rfl, rfl, rfl, by decide +kernel, rfl, by decide +kernel, by decide +kernel⟩
theorem ok_copied (k : Nat) (C_copied : Cal P w K mg base (k + 0) "copied" (sp_copied K k)) {f : Addr} {fd : FuncData} (F : Fun K "copied" "copied" s_copied f fd) (B : Blt mg) : FnOk P w K mg base CX0 (k + 0 + 1) f fd ["program"] (sp_copied K (k + 1)) := by
  refine F.ok sc_copied (fun vs H Q E h => ?_) (fun cdv A outer s H vs Q E hr h => ?_)
  · obtain ⟨v, d, b, rfl, _⟩ := h
    rfl
  · obtain ⟨v, d, b, rfl, hv, hp, hd, hk, hc, q⟩ := h
    have nd := sc_copied.nd
    have hlb : b.length ≤ 1000 := Nat.le_trans (len_cnP b) hc
    cases hp
    · rename_i ds hall
      cases hv
      rename_i a xs hs hds
      have hlen := DpAll.len hds
      have hlen2 := hall.len
      refine ⟨_, (pss_cons (ps_setLc (i := 1) (own := [("row", 2)]) (by rfl) nd rfl rfl (sw_true rfl rfl rfl (by decide +kernel)) (pi_list (pv 0)) (blkOk_by (N := ["program", "rows", "row"]) (sc := defScope s_copied) (own := [("row", 2)]) (by decide +kernel)) (fun _ _ _ _ _ => (pg_name (i := 2) nd rfl (.inl rfl))) (fun _ _ _ _ _ => pts_nil) (fun _ _ _ _ _ => (pe_ifExp (pt_cmpR op_ne (pe_ix (ix_tupK K rfl) (pv 2) pe_int (fun _ _ => rfl)) pe_str (nomark _)) (pv 2) (pe_tup (pa_cons (pe_ix (ix_tupK K rfl) (pv 2) pe_int (fun _ _ => rfl)) (pa_cons (pe_ix (ix_tupK K rfl) (pv 2) pe_int (fun _ _ => rfl)) (pa_cons (pe_c C_copied hr (by omega) (by rfl) (pa_cons (pe_ix (ix_tupK K rfl) (pv 2) pe_int (fun _ _ => rfl)) pa_nil)) pa_nil)))))))
    (pss_one (ps_ret (pe_ifExp (pt_val (pe_callB call_isi (by rfl) B.isinstance (by decide +kernel) (pa_cons (pv 0) (pa_cons (pe_bltn (v := .ty "list") (u := .type "list") (by rfl) B.list (by decide +kernel) rfl) pa_nil)))) (pv 1) (pe_callTy call_tuple_of (by rfl) B.tuple (by decide +kernel) (pa_cons (pv 1) pa_nil)))))), ?_⟩
      dsimp only [tAsg]
      refine ⟨_, rfl, a, rfl, ⟨_, hs⟩, fun D nD => lc_list (K := K) (a := a) (xs := xs) (fun m H2 => Same H H2 ∧ ∃ ys, H2 D = some (.lst ys) ∧ DpAll K (er1 D (er H H2)) ys (ds.take m)) ⟨same_new nD, [], upd_same, .nil⟩ (fun m H2 _ g => same_l g.1 hs) ?_ ?_⟩
      · rintro m x H2 hm ⟨s2, ys, hD, hY⟩
        obtain ⟨dd, hdd, hx⟩ := DpAll.get hds hm
        obtain ⟨i, hi, hI⟩ := hall.get hdd
        have ml : m < ds.length := (List.getElem?_eq_some_iff.mp hdd).1
        have yl := DpAll.len hY
        rw [List.length_take] at yl
        have hm2 := List.mem_of_getElem? hi
        refine ⟨rfl, ?_⟩
        have fin : ∀ (y : V) (H3 : Hp), Same H2 H3 → Dp K (er1 D (er H H3)) y dd → ∃ acc, H3 D = some (.lst acc) ∧ acc.length < sizeLine ∧ Same H (upd H3 D (.lst (acc ++ [y]))) ∧ ∃ ys, (upd H3 D (.lst (acc ++ [y]))) D = some (.lst ys) ∧ DpAll K (er1 D (er H (upd H3 D (.lst (acc ++ [y]))))) ys (ds.take (m + 1)) := fun y H3 s3 hy => by
          refine ⟨ys, s3 _ _ hD, sl_lt (by omega), same_mut (s2.trans s3) nD, _, upd_same, ?_⟩
          rw [take_snoc hdd]
          exact DpAll.append (DpAll.same ((er1_sameS s3).trans er1_updS) hY) (.cons (Dp.same er1_updS hy) .nil)
        have told := er_oldS s2 nD
        rcases (show IV K H x i from ⟨dd, hx, hI⟩).inv with ⟨c, n, rfl, ht, rfl⟩ | ⟨c, n, rfl, ht, rfl⟩ | ⟨c, n, y, bb, rfl, ht, hy, rfl⟩
        · have ht2 := same_t s2 ht
          refine ⟨_, rfl, c, _, 0, _, rfl, rfl, ht2, rfl, rfl, _, rfl, iteNN v_sr ?_⟩
          cases hI
          exact ⟨_, rfl, fin _ _ (Same.refl _) (.tup (tp_t told ht) (.cons (.str _) (.cons (.int _) .nil)))⟩
        · have ht2 := same_t s2 ht
          refine ⟨_, rfl, c, _, 0, _, rfl, rfl, ht2, rfl, rfl, _, rfl, iteNN v_tr ?_⟩
          cases hI
          exact ⟨_, rfl, fin _ _ (Same.refl _) (.tup (tp_t told ht) (.cons (.str _) (.cons (.int _) .nil)))⟩
        · have ht2 := same_t s2 ht
          refine ⟨_, rfl, c, _, 0, _, rfl, rfl, ht2, rfl, rfl, _, rfl, iteNS rfl ?_⟩
          have hdi := dpP_mem hm2
          rw [dpI] at hdi
          have hci := cnP_mem hm2
          rw [cnI] at hci
          obtain ⟨d2, rfl, hp2⟩ := hI.rep_inv
          obtain ⟨c', y', ec, ht3, hy3⟩ := Dp.three hx
          cases ec
          have ht4 := same_t s2 ht3
          refine ⟨_, rfl, c, _, 0, _, rfl, rfl, ht4, rfl, _, rfl, c, _, 1, _, rfl, rfl, ht4, rfl, _, rfl, c, _, 2, _, rfl, rfl, ht4, rfl, y', d2, bb, rfl, Dp.same s2 hy3, hp2, by omega, by omega, by omega, fun v' H3 s3 hv' => ⟨sl_of (show 3 ≤ 1000000 by decide), fun t nt => ?_⟩⟩
          have st := same_new nt (o := HO.tup [V.str "repeat", V.int n, v'])
          have hD3 := s3 _ _ hD
          refine fin (.ref t) _ (s3.trans st) (.tup (SqT.of ?_) (.cons (.str _) (.cons (.int _) (.cons (Dp.same ((er_inS s2 hD).trans (er1_sameS st)) hv') .nil))))
          refine er1_of (ne_of_none hD3 nt).symm (er_of upd_same fun ws z => ?_)
          rw [(s2.trans s3) _ _ z] at nt
          cases nt
      · rintro H2 ⟨s2, ys, hD, hY⟩
        rw [hlen, List.take_length] at hY
        have hY2 : DpAll K (er H H2) ys ds := DpAll.same (fun b o e => (er1_at e).2) hY
        have two : ∀ {l : Addr} {o : HO} {H3 : Hp}, H3 l = some o → (∀ ws, H l ≠ some (.lst ws)) → er H H3 l = some o := fun e n => er_of e n
        refine ⟨_, rfl, .ref a, .ty "list", _, _, _, rfl, .ty "list", DpE.ty (Dp.e (.lst (same_l s2 hs) (DpAll.same s2 hds))), kit_list K (.list ds), _, rfl, iteT ?_⟩
        exact ⟨_, rfl, q (.ref D) H2 s2 (.lst (SqL.of (er_of hD fun ws z => by rw [nD] at z; cases z)) hY2)⟩
    · rename_i ds hall
      cases hv
      rename_i a xs hs hds
      have hlen := DpAll.len hds
      have hlen2 := hall.len
      refine ⟨_, (pss_cons (ps_setLc (i := 1) (own := [("row", 2)]) (by rfl) nd rfl rfl (sw_true rfl rfl rfl (by decide +kernel)) (pi_tup (pv 0)) (blkOk_by (N := ["program", "rows", "row"]) (sc := defScope s_copied) (own := [("row", 2)]) (by decide +kernel)) (fun _ _ _ _ _ => (pg_name (i := 2) nd rfl (.inl rfl))) (fun _ _ _ _ _ => pts_nil) (fun _ _ _ _ _ => (pe_ifExp (pt_cmpR op_ne (pe_ix (ix_tupK K rfl) (pv 2) pe_int (fun _ _ => rfl)) pe_str (nomark _)) (pv 2) (pe_tup (pa_cons (pe_ix (ix_tupK K rfl) (pv 2) pe_int (fun _ _ => rfl)) (pa_cons (pe_ix (ix_tupK K rfl) (pv 2) pe_int (fun _ _ => rfl)) (pa_cons (pe_c C_copied hr (by omega) (by rfl) (pa_cons (pe_ix (ix_tupK K rfl) (pv 2) pe_int (fun _ _ => rfl)) pa_nil)) pa_nil)))))))
    (pss_one (ps_ret (pe_ifExp (pt_val (pe_callB call_isi (by rfl) B.isinstance (by decide +kernel) (pa_cons (pv 0) (pa_cons (pe_bltn (v := .ty "list") (u := .type "list") (by rfl) B.list (by decide +kernel) rfl) pa_nil)))) (pv 1) (pe_callTy call_tuple_of (by rfl) B.tuple (by decide +kernel) (pa_cons (pv 1) pa_nil)))))), ?_⟩
      dsimp only [tAsg]
      refine ⟨_, rfl, a, rfl, ⟨_, hs⟩, fun D nD => lc_tup (K := K) (a := a) (xs := xs) (fun m H2 => Same H H2 ∧ ∃ ys, H2 D = some (.lst ys) ∧ DpAll K (er1 D (er H H2)) ys (ds.take m)) ⟨same_new nD, [], upd_same, .nil⟩ (fun m H2 _ g => same_t g.1 hs) ?_ ?_⟩
      · rintro m x H2 hm ⟨s2, ys, hD, hY⟩
        obtain ⟨dd, hdd, hx⟩ := DpAll.get hds hm
        obtain ⟨i, hi, hI⟩ := hall.get hdd
        have ml : m < ds.length := (List.getElem?_eq_some_iff.mp hdd).1
        have yl := DpAll.len hY
        rw [List.length_take] at yl
        have hm2 := List.mem_of_getElem? hi
        refine ⟨rfl, ?_⟩
        have fin : ∀ (y : V) (H3 : Hp), Same H2 H3 → Dp K (er1 D (er H H3)) y dd → ∃ acc, H3 D = some (.lst acc) ∧ acc.length < sizeLine ∧ Same H (upd H3 D (.lst (acc ++ [y]))) ∧ ∃ ys, (upd H3 D (.lst (acc ++ [y]))) D = some (.lst ys) ∧ DpAll K (er1 D (er H (upd H3 D (.lst (acc ++ [y]))))) ys (ds.take (m + 1)) := fun y H3 s3 hy => by
          refine ⟨ys, s3 _ _ hD, sl_lt (by omega), same_mut (s2.trans s3) nD, _, upd_same, ?_⟩
          rw [take_snoc hdd]
          exact DpAll.append (DpAll.same ((er1_sameS s3).trans er1_updS) hY) (.cons (Dp.same er1_updS hy) .nil)
        have told := er_oldS s2 nD
        rcases (show IV K H x i from ⟨dd, hx, hI⟩).inv with ⟨c, n, rfl, ht, rfl⟩ | ⟨c, n, rfl, ht, rfl⟩ | ⟨c, n, y, bb, rfl, ht, hy, rfl⟩
        · have ht2 := same_t s2 ht
          refine ⟨_, rfl, c, _, 0, _, rfl, rfl, ht2, rfl, rfl, _, rfl, iteNN v_sr ?_⟩
          cases hI
          exact ⟨_, rfl, fin _ _ (Same.refl _) (.tup (tp_t told ht) (.cons (.str _) (.cons (.int _) .nil)))⟩
        · have ht2 := same_t s2 ht
          refine ⟨_, rfl, c, _, 0, _, rfl, rfl, ht2, rfl, rfl, _, rfl, iteNN v_tr ?_⟩
          cases hI
          exact ⟨_, rfl, fin _ _ (Same.refl _) (.tup (tp_t told ht) (.cons (.str _) (.cons (.int _) .nil)))⟩
        · have ht2 := same_t s2 ht
          refine ⟨_, rfl, c, _, 0, _, rfl, rfl, ht2, rfl, rfl, _, rfl, iteNS rfl ?_⟩
          have hdi := dpP_mem hm2
          rw [dpI] at hdi
          have hci := cnP_mem hm2
          rw [cnI] at hci
          obtain ⟨d2, rfl, hp2⟩ := hI.rep_inv
          obtain ⟨c', y', ec, ht3, hy3⟩ := Dp.three hx
          cases ec
          have ht4 := same_t s2 ht3
          refine ⟨_, rfl, c, _, 0, _, rfl, rfl, ht4, rfl, _, rfl, c, _, 1, _, rfl, rfl, ht4, rfl, _, rfl, c, _, 2, _, rfl, rfl, ht4, rfl, y', d2, bb, rfl, Dp.same s2 hy3, hp2, by omega, by omega, by omega, fun v' H3 s3 hv' => ⟨sl_of (show 3 ≤ 1000000 by decide), fun t nt => ?_⟩⟩
          have st := same_new nt (o := HO.tup [V.str "repeat", V.int n, v'])
          have hD3 := s3 _ _ hD
          refine fin (.ref t) _ (s3.trans st) (.tup (SqT.of ?_) (.cons (.str _) (.cons (.int _) (.cons (Dp.same ((er_inS s2 hD).trans (er1_sameS st)) hv') .nil))))
          refine er1_of (ne_of_none hD3 nt).symm (er_of upd_same fun ws z => ?_)
          rw [(s2.trans s3) _ _ z] at nt
          cases nt
      · rintro H2 ⟨s2, ys, hD, hY⟩
        rw [hlen, List.take_length] at hY
        have hY2 : DpAll K (er H H2) ys ds := DpAll.same (fun b o e => (er1_at e).2) hY
        have two : ∀ {l : Addr} {o : HO} {H3 : Hp}, H3 l = some o → (∀ ws, H l ≠ some (.lst ws)) → er H H3 l = some o := fun e n => er_of e n
        refine ⟨_, rfl, .ref a, .ty "list", _, _, _, rfl, .ty "list", DpE.ty (Dp.e (.tup (same_t s2 hs) (DpAll.same s2 hds))), kit_list K (.tuple ds), _, rfl, iteF ?_⟩
        refine ⟨_, rfl, D, _, rfl, .inl ⟨SqL.of hD, fun l nl => q (.ref l) _ (s2.trans (same_new nl)) (.tup (SqT.of (er_of upd_same fun ws z => ?_)) (DpAll.same (er_same (same_new nl)) hY2))⟩⟩
        rw [s2 _ _ z] at nl
        cases nl
theorem sc_with_lists : FnScope ["program", "row"] ["program"] (defScope s_with_lists) := ⟨rfl, rfl, rfl, by decide +kernel, rfl, by decide +kernel, by decide +kernel⟩
theorem ok_with_lists (k : Nat) (C_with_lists : Cal P w K mg base (k + 0) "with_lists" (sp_with_lists K k)) {f : Addr} {fd : FuncData} (F : Fun K "with_lists" "with_lists" s_with_lists f fd) (B : Blt mg) : FnOk P w K mg base CX0 (k + 0 + 1) f fd ["program"] (sp_with_lists K (k + 1)) := by
  refine F.ok sc_with_lists (fun vs H Q E h => ?_) (fun cdv A outer s H vs Q E hr h => ?_)
  · obtain ⟨v, d, b, rfl, _⟩ := h
    rfl
  · obtain ⟨v, d, b, rfl, hv, hp, hd, hk, hc, q⟩ := h
    have nd := sc_with_lists.nd
    have hlb : b.length ≤ 1000 := Nat.le_trans (len_cnP b) hc
    have at_ld : ∀ (m : Nat) (i : Ins), b[m]? = some i → (ldA b)[m]? = some (ldI i) := fun m i e => ld_at e
    cases hp
    · rename_i ds hall
      cases hv
      rename_i a xs hs hds
      have hlen := DpAll.len hds
      have hlen2 := hall.len
      refine ⟨_, (pss_one (ps_ret (pe_lc (own := [("row", 1)]) (by rfl) nd (pi_list (pv 0)) (blkOk_by (N := ["program", "row"]) (sc := defScope s_with_lists) (own := [("row", 1)]) (by decide +kernel)) (fun _ _ _ _ _ => (pg_name (i := 1) nd rfl (.inl rfl))) (fun _ _ _ _ _ => pts_nil) (fun _ _ _ _ _ => (pe_ifExp (pt_cmpR op_ne (pe_ix (ix_tupK K rfl) (pv 1) pe_int (fun _ _ => rfl)) pe_str (nomark _)) (pv 1) (pe_tup (pa_cons (pe_ix (ix_tupK K rfl) (pv 1) pe_int (fun _ _ => rfl)) (pa_cons (pe_ix (ix_tupK K rfl) (pv 1) pe_int (fun _ _ => rfl)) (pa_cons (pe_c C_with_lists hr (by omega) (by rfl) (pa_cons (pe_ix (ix_tupK K rfl) (pv 1) pe_int (fun _ _ => rfl)) pa_nil)) pa_nil))))))))), ?_⟩
      dsimp only [tRet]
      refine ⟨_, rfl, a, rfl, ⟨_, hs⟩, fun D nD => lc_list (K := K) (a := a) (xs := xs) (fun m H2 => Same H H2 ∧ ∃ ys, H2 D = some (.lst ys) ∧ DpAll K (er1 D (er H H2)) ys ((ldA b).take m)) ⟨same_new nD, [], upd_same, .nil⟩ (fun m H2 _ g => same_l g.1 hs) ?_ ?_⟩
      · rintro m x H2 hm ⟨s2, ys, hD, hY⟩
        obtain ⟨dd, hdd, hx⟩ := DpAll.get hds hm
        obtain ⟨i, hi, hI⟩ := hall.get hdd
        have hld := at_ld m i hi
        have ml : m < ds.length := (List.getElem?_eq_some_iff.mp hdd).1
        have yl := DpAll.len hY
        rw [List.length_take] at yl
        have hm2 := List.mem_of_getElem? hi
        refine ⟨rfl, ?_⟩
        have fin : ∀ (y : V) (H3 : Hp), Same H2 H3 → Dp K (er1 D (er H H3)) y (ldI i) → ∃ acc, H3 D = some (.lst acc) ∧ acc.length < sizeLine ∧ Same H (upd H3 D (.lst (acc ++ [y]))) ∧ ∃ ys, (upd H3 D (.lst (acc ++ [y]))) D = some (.lst ys) ∧ DpAll K (er1 D (er H (upd H3 D (.lst (acc ++ [y]))))) ys ((ldA b).take (m + 1)) := fun y H3 s3 hy => by
          refine ⟨ys, s3 _ _ hD, sl_lt (by omega), same_mut (s2.trans s3) nD, _, upd_same, ?_⟩
          rw [take_snoc hld]
          exact DpAll.append (DpAll.same ((er1_sameS s3).trans er1_updS) hY) (.cons (Dp.same er1_updS hy) .nil)
        have told := er_oldS s2 nD
        rcases (show IV K H x i from ⟨dd, hx, hI⟩).inv with ⟨c, n, rfl, ht, rfl⟩ | ⟨c, n, rfl, ht, rfl⟩ | ⟨c, n, y, bb, rfl, ht, hy, rfl⟩
        · have ht2 := same_t s2 ht
          refine ⟨_, rfl, c, _, 0, _, rfl, rfl, ht2, rfl, rfl, _, rfl, iteNN v_sr ?_⟩
          exact ⟨_, rfl, fin _ _ (Same.refl _) (by rw [ldI]; exact .tup (tp_t told ht) (.cons (.str _) (.cons (.int _) .nil)))⟩
        · have ht2 := same_t s2 ht
          refine ⟨_, rfl, c, _, 0, _, rfl, rfl, ht2, rfl, rfl, _, rfl, iteNN v_tr ?_⟩
          exact ⟨_, rfl, fin _ _ (Same.refl _) (by rw [ldI]; exact .tup (tp_t told ht) (.cons (.str _) (.cons (.int _) .nil)))⟩
        · have ht2 := same_t s2 ht
          refine ⟨_, rfl, c, _, 0, _, rfl, rfl, ht2, rfl, rfl, _, rfl, iteNS rfl ?_⟩
          have hdi := dpP_mem hm2
          rw [dpI] at hdi
          have hci := cnP_mem hm2
          rw [cnI] at hci
          obtain ⟨d2, rfl, hp2⟩ := hI.rep_inv
          obtain ⟨c', y', ec, ht3, hy3⟩ := Dp.three hx
          cases ec
          have ht4 := same_t s2 ht3
          refine ⟨_, rfl, c, _, 0, _, rfl, rfl, ht4, rfl, _, rfl, c, _, 1, _, rfl, rfl, ht4, rfl, _, rfl, c, _, 2, _, rfl, rfl, ht4, rfl, y', d2, bb, rfl, Dp.same s2 hy3, hp2, by omega, by omega, by omega, fun v' H3 s3 hv' => ⟨sl_of (show 3 ≤ 1000000 by decide), fun t nt => ?_⟩⟩
          have st := same_new nt (o := HO.tup [V.str "repeat", V.int n, v'])
          have hD3 := s3 _ _ hD
          refine fin (.ref t) _ (s3.trans st) ?_
          rw [ldI]
          refine .tup (SqT.of ?_) (.cons (.str _) (.cons (.int _) (.cons (Dp.same ((er_inS s2 hD).trans (er1_sameS st)) hv') .nil)))
          refine er1_of (ne_of_none hD3 nt).symm (er_of upd_same fun ws z => ?_)
          rw [(s2.trans s3) _ _ z] at nt
          cases nt
      · rintro H2 ⟨s2, ys, hD, hY⟩
        have full : (ldA b).take xs.length = ldA b := List.take_of_length_le (by rw [ld_len]; omega)
        rw [full] at hY
        have hY2 : DpAll K (er H H2) ys (ldA b) := DpAll.same (fun b o e => (er1_at e).2) hY
        exact q (.ref D) H2 s2 (.lst (SqL.of (er_of hD fun ws z => by rw [nD] at z; cases z)) hY2)
    · rename_i ds hall
      cases hv
      rename_i a xs hs hds
      have hlen := DpAll.len hds
      have hlen2 := hall.len
      refine ⟨_, (pss_one (ps_ret (pe_lc (own := [("row", 1)]) (by rfl) nd (pi_tup (pv 0)) (blkOk_by (N := ["program", "row"]) (sc := defScope s_with_lists) (own := [("row", 1)]) (by decide +kernel)) (fun _ _ _ _ _ => (pg_name (i := 1) nd rfl (.inl rfl))) (fun _ _ _ _ _ => pts_nil) (fun _ _ _ _ _ => (pe_ifExp (pt_cmpR op_ne (pe_ix (ix_tupK K rfl) (pv 1) pe_int (fun _ _ => rfl)) pe_str (nomark _)) (pv 1) (pe_tup (pa_cons (pe_ix (ix_tupK K rfl) (pv 1) pe_int (fun _ _ => rfl)) (pa_cons (pe_ix (ix_tupK K rfl) (pv 1) pe_int (fun _ _ => rfl)) (pa_cons (pe_c C_with_lists hr (by omega) (by rfl) (pa_cons (pe_ix (ix_tupK K rfl) (pv 1) pe_int (fun _ _ => rfl)) pa_nil)) pa_nil))))))))), ?_⟩
      dsimp only [tRet]
      refine ⟨_, rfl, a, rfl, ⟨_, hs⟩, fun D nD => lc_tup (K := K) (a := a) (xs := xs) (fun m H2 => Same H H2 ∧ ∃ ys, H2 D = some (.lst ys) ∧ DpAll K (er1 D (er H H2)) ys ((ldA b).take m)) ⟨same_new nD, [], upd_same, .nil⟩ (fun m H2 _ g => same_t g.1 hs) ?_ ?_⟩
      · rintro m x H2 hm ⟨s2, ys, hD, hY⟩
        obtain ⟨dd, hdd, hx⟩ := DpAll.get hds hm
        obtain ⟨i, hi, hI⟩ := hall.get hdd
        have hld := at_ld m i hi
        have ml : m < ds.length := (List.getElem?_eq_some_iff.mp hdd).1
        have yl := DpAll.len hY
        rw [List.length_take] at yl
        have hm2 := List.mem_of_getElem? hi
        refine ⟨rfl, ?_⟩
        have fin : ∀ (y : V) (H3 : Hp), Same H2 H3 → Dp K (er1 D (er H H3)) y (ldI i) → ∃ acc, H3 D = some (.lst acc) ∧ acc.length < sizeLine ∧ Same H (upd H3 D (.lst (acc ++ [y]))) ∧ ∃ ys, (upd H3 D (.lst (acc ++ [y]))) D = some (.lst ys) ∧ DpAll K (er1 D (er H (upd H3 D (.lst (acc ++ [y]))))) ys ((ldA b).take (m + 1)) := fun y H3 s3 hy => by
          refine ⟨ys, s3 _ _ hD, sl_lt (by omega), same_mut (s2.trans s3) nD, _, upd_same, ?_⟩
          rw [take_snoc hld]
          exact DpAll.append (DpAll.same ((er1_sameS s3).trans er1_updS) hY) (.cons (Dp.same er1_updS hy) .nil)
        have told := er_oldS s2 nD
        rcases (show IV K H x i from ⟨dd, hx, hI⟩).inv with ⟨c, n, rfl, ht, rfl⟩ | ⟨c, n, rfl, ht, rfl⟩ | ⟨c, n, y, bb, rfl, ht, hy, rfl⟩
        · have ht2 := same_t s2 ht
          refine ⟨_, rfl, c, _, 0, _, rfl, rfl, ht2, rfl, rfl, _, rfl, iteNN v_sr ?_⟩
          exact ⟨_, rfl, fin _ _ (Same.refl _) (by rw [ldI]; exact .tup (tp_t told ht) (.cons (.str _) (.cons (.int _) .nil)))⟩
        · have ht2 := same_t s2 ht
          refine ⟨_, rfl, c, _, 0, _, rfl, rfl, ht2, rfl, rfl, _, rfl, iteNN v_tr ?_⟩
          exact ⟨_, rfl, fin _ _ (Same.refl _) (by rw [ldI]; exact .tup (tp_t told ht) (.cons (.str _) (.cons (.int _) .nil)))⟩
        · have ht2 := same_t s2 ht
          refine ⟨_, rfl, c, _, 0, _, rfl, rfl, ht2, rfl, rfl, _, rfl, iteNS rfl ?_⟩
          have hdi := dpP_mem hm2
          rw [dpI] at hdi
          have hci := cnP_mem hm2
          rw [cnI] at hci
          obtain ⟨d2, rfl, hp2⟩ := hI.rep_inv
          obtain ⟨c', y', ec, ht3, hy3⟩ := Dp.three hx
          cases ec
          have ht4 := same_t s2 ht3
          refine ⟨_, rfl, c, _, 0, _, rfl, rfl, ht4, rfl, _, rfl, c, _, 1, _, rfl, rfl, ht4, rfl, _, rfl, c, _, 2, _, rfl, rfl, ht4, rfl, y', d2, bb, rfl, Dp.same s2 hy3, hp2, by omega, by omega, by omega, fun v' H3 s3 hv' => ⟨sl_of (show 3 ≤ 1000000 by decide), fun t nt => ?_⟩⟩
          have st := same_new nt (o := HO.tup [V.str "repeat", V.int n, v'])
          have hD3 := s3 _ _ hD
          refine fin (.ref t) _ (s3.trans st) ?_
          rw [ldI]
          refine .tup (SqT.of ?_) (.cons (.str _) (.cons (.int _) (.cons (Dp.same ((er_inS s2 hD).trans (er1_sameS st)) hv') .nil)))
          refine er1_of (ne_of_none hD3 nt).symm (er_of upd_same fun ws z => ?_)
          rw [(s2.trans s3) _ _ z] at nt
          cases nt
      · rintro H2 ⟨s2, ys, hD, hY⟩
        have full : (ldA b).take xs.length = ldA b := List.take_of_length_le (by rw [ld_len]; omega)
        rw [full] at hY
        have hY2 : DpAll K (er H H2) ys (ldA b) := DpAll.same (fun b o e => (er1_at e).2) hY
        exact q (.ref D) H2 s2 (.lst (SqL.of (er_of hD fun ws z => by rw [nD] at z; cases z)) hY2)
theorem sc_tokens_of : FnScope ["program", "tokens", "instruction"] ["program"] (defScope s_tokens_of) := ⟨rfl, rfl, rfl, by decide +kernel, rfl, by decide +kernel, by decide +kernel⟩
theorem ok_tokens_of (k : Nat) (C_tokens_of : Cal P w K mg base (k + 0) "tokens_of" (sp_tokens_of K k)) {f : Addr} {fd : FuncData} (F : Fun K "tokens_of" "tokens_of" s_tokens_of f fd) (B : Blt mg) : FnOk P w K mg base CX0 (k + 0 + 1) f fd ["program"] (sp_tokens_of K (k + 1)) := by
  refine F.ok sc_tokens_of (fun vs H Q E h => ?_) (fun cdv A outer s H vs Q E hr h => ?_)
  · obtain ⟨v, b, rfl, _⟩ := h
    rfl
  · obtain ⟨v, b, rfl, hv, hd, hk, hg, hc, q⟩ := h
    have nd := sc_tokens_of.nd
    obtain ⟨a, xs, rfl, hsq, hI⟩ := hv.inv
    rcases hsq with hs | hs
    · refine ⟨_, (pss_cons (ps_set (i := 1) nd rfl (.inl rfl) (pe_lst pa_nil))
    (pss_cons (ps_for PassesOwn.never rfl (pi_list (pv 0)) (pg_name (i := 2) nd rfl (.inl rfl))
      (pss_cons (ps_expr (pe_bm PySem.F.plainAttrs_list PySem.F.slot_list_extend PySem.F.type_list_extend mt_extend (pv 1) (pa_cons (pe_lst (pa_cons (pe_ix ix_tup (pv 2) pe_int (fun _ _ => rfl)) (pa_cons (pe_callTy call_str_int (by rfl) B.str (by decide +kernel) (pa_cons (pe_ix ix_tup (pv 2) pe_int (fun _ _ => rfl)) pa_nil)) pa_nil))) pa_nil)))
    (pss_one (ps_if (pt_cmpR op_eq (pe_ix ix_tup (pv 2) pe_int (fun _ _ => rfl)) pe_str (nomark _))
      (pss_one (ps_expr (pe_bm PySem.F.plainAttrs_list PySem.F.slot_list_extend PySem.F.type_list_extend mt_extend (pv 1) (pa_cons (pe_op op_cat (pe_op op_cat (pe_lst (pa_cons pe_str pa_nil)) (pe_c C_tokens_of hr (by omega) (by rfl) (pa_cons (pe_ix ix_tup (pv 2) pe_int (fun _ _ => rfl)) pa_nil))) (pe_lst (pa_cons pe_str pa_nil))) pa_nil))))
      pss_nil))))
    (pss_one (ps_ret (pv 1))))), ?_⟩
      refine ⟨Nat.zero_le _, fun D nD => ?_⟩
      have s1 := same_new nD (o := HO.lst [])
      refine ⟨_, rfl, a, rfl, ⟨_, same_l s1 hs⟩, for_list (K := K) (a := a) (xs := xs) (fun j σ H2 => ∃ (y : Option V), σ = [some (.ref a), some (.ref D), y] ∧ Same H H2 ∧ H2 D = some (.lst ((tkP (b.take j)).map V.str))) ⟨none, rfl, s1, by rw [List.take_zero, tkP_nil]; exact upd_same⟩ ?_ ?_ ?_⟩
      · rintro j σ H2 _ ⟨y, _, s2, _⟩
        exact same_l s2 hs
      · rintro j x σ H2 hj ⟨y, rfl, s2, hD2⟩
        obtain ⟨i, hi, hx0⟩ := hI.get hj
        have hm := List.mem_of_getElem? hi
        have gi := CtP_mem hg hm
        have sn := tkP_snoc hi
        have hcj := cnP_tk b j
        have tl := (tkP_len (ctP_tk hg j)).1
        rcases hx0.inv with ⟨e, m, rfl, ht0, rfl⟩ | ⟨e, m, rfl, ht0, rfl⟩ | ⟨e, m, y', bb, rfl, ht0, hy0, rfl⟩
        all_goals have ht := same_t s2 ht0
        · rw [CtI] at gi
          refine ⟨_, rfl, .inl ⟨rfl, _, SqL.of hD2⟩, _, rfl, e, _, 0, _, rfl, rfl, ht, rfl, _, rfl, e, _, 1, _, rfl, rfl, ht, rfl, m, rfl, lg_ct gi, sl_of (show 2 ≤ 1000000 by decide), fun L nL => ?_⟩
          have z1 := same_new nL (o := HO.lst [V.str "step", V.str (ctS m)])
          refine ⟨D, L, _, [V.str "step", V.str (ctS m)], rfl, rfl, z1 _ _ hD2, upd_same, sl_of (by rw [List.length_map]; show _ + 2 ≤ 1000000; omega), ?_⟩
          refine ⟨_, rfl, e, _, 0, _, rfl, rfl, tp_t ((Same.tp z1).trans (tp_lst (z1 _ _ hD2))) ht, rfl, rfl, _, rfl, iteN v_sr ?_⟩
          refine ⟨_, rfl, same_mut (s2.trans z1) nD, ?_⟩
          rw [upd_same, sn, List.map_append, tkI]
          rfl
        · rw [CtI] at gi
          refine ⟨_, rfl, .inl ⟨rfl, _, SqL.of hD2⟩, _, rfl, e, _, 0, _, rfl, rfl, ht, rfl, _, rfl, e, _, 1, _, rfl, rfl, ht, rfl, m, rfl, lg_ct gi, sl_of (show 2 ≤ 1000000 by decide), fun L nL => ?_⟩
          have z1 := same_new nL (o := HO.lst [V.str "turn", V.str (ctS m)])
          refine ⟨D, L, _, [V.str "turn", V.str (ctS m)], rfl, rfl, z1 _ _ hD2, upd_same, sl_of (by rw [List.length_map]; show _ + 2 ≤ 1000000; omega), ?_⟩
          refine ⟨_, rfl, e, _, 0, _, rfl, rfl, tp_t ((Same.tp z1).trans (tp_lst (z1 _ _ hD2))) ht, rfl, rfl, _, rfl, iteN v_tr ?_⟩
          refine ⟨_, rfl, same_mut (s2.trans z1) nD, ?_⟩
          rw [upd_same, sn, List.map_append, tkI]
          rfl
        · rw [CtI] at gi
          have hdi := dpP_mem hm
          rw [dpI] at hdi
          have hci := cnP_mem hm
          rw [cnI] at hci
          have tb := (tkP_len gi.2.2).1
          refine ⟨_, rfl, .inl ⟨rfl, _, SqL.of hD2⟩, _, rfl, e, _, 0, _, rfl, rfl, ht, rfl, _, rfl, e, _, 1, _, rfl, rfl, ht, rfl, m, rfl, lg_ct (by omega), sl_of (show 2 ≤ 1000000 by decide), fun L nL => ?_⟩
          have z1 := same_new nL (o := HO.lst [V.str "repeat", V.str (ctS m)])
          have hD3 := z1 _ _ hD2
          have nDH : D ≠ L := ne_of_none hD2 nL
          refine ⟨D, L, _, [V.str "repeat", V.str (ctS m)], rfl, rfl, hD3, upd_same, sl_of (by rw [List.length_map]; show _ + 2 ≤ 1000000; omega), ?_⟩
          have s3 : Same H _ := same_mut (o := HO.lst (List.map V.str (tkP (b.take j)) ++ [V.str "repeat", V.str (ctS m)])) (s2.trans z1) nD
          have hD4 : (upd (upd H2 L (HO.lst [V.str "repeat", V.str (ctS m)])) D (HO.lst (List.map V.str (tkP (b.take j)) ++ [V.str "repeat", V.str (ctS m)]))) D = some (.lst (List.map V.str (tkP (b.take j)) ++ [V.str "repeat", V.str (ctS m)])) := upd_same
          have ht3 := same_t s3 ht0
          have hy3 := hy0.same s3
          refine ⟨_, rfl, e, _, 0, _, rfl, rfl, ht3, rfl, rfl, _, rfl, iteS rfl ?_⟩
          refine ⟨_, rfl, .inl ⟨rfl, _, SqL.of hD4⟩, sl_of (show 1 ≤ 1000000 by decide), fun L1 nL1 => ?_⟩
          have w1 := same_new nL1 (o := HO.lst [V.str "["])
          refine ⟨_, rfl, e, _, 2, _, rfl, rfl, same_t w1 ht3, rfl, y', bb, rfl, hy3.same w1, by omega, by omega, gi.2.2, by omega, fun D5 H5 s5 n5 e5 => ?_⟩
          refine ⟨L1, D5, _, _, rfl, rfl, s5 _ _ upd_same, e5, sl_of (by rw [List.length_map]; show 1 + _ ≤ 1000000; omega), fun L2 nL2 => ?_⟩
          have w2 := same_new nL2 (o := HO.lst ([V.str "["] ++ (tkP bb).map V.str))
          refine ⟨sl_of (show 1 ≤ 1000000 by decide), fun L3 nL3 => ?_⟩
          have w3 := same_new nL3 (o := HO.lst [V.str "]"])
          refine ⟨L2, L3, _, _, rfl, rfl, w3 _ _ upd_same, upd_same, sl_of (by rw [List.length_append, List.length_map]; show 1 + _ + 1 ≤ 1000000; omega), fun L4 nL4 => ?_⟩
          have w4 := same_new nL4 (o := HO.lst (([V.str "["] ++ (tkP bb).map V.str) ++ [V.str "]"]))
          have S5 := w1.trans (s5.trans (w2.trans (w3.trans w4)))
          refine ⟨D, L4, _, _, rfl, rfl, S5 _ _ hD4, upd_same, sl_of (by simp only [List.length_append, List.length_map, List.length_cons, List.length_nil]; omega), ?_⟩
          refine ⟨_, rfl, same_mut (s3.trans S5) nD, ?_⟩
          rw [upd_same, sn, List.map_append, tkI, List.map_append, List.map_append, List.append_assoc]
          rfl
      · rintro σ H2 ⟨y, rfl, s2, hD2⟩
        rw [hI.len, List.take_length] at hD2
        exact ⟨_, rfl, q D H2 s2 nD hD2⟩
    · refine ⟨_, (pss_cons (ps_set (i := 1) nd rfl (.inl rfl) (pe_lst pa_nil))
    (pss_cons (ps_for PassesOwn.never rfl (pi_tup (pv 0)) (pg_name (i := 2) nd rfl (.inl rfl))
      (pss_cons (ps_expr (pe_bm PySem.F.plainAttrs_list PySem.F.slot_list_extend PySem.F.type_list_extend mt_extend (pv 1) (pa_cons (pe_lst (pa_cons (pe_ix ix_tup (pv 2) pe_int (fun _ _ => rfl)) (pa_cons (pe_callTy call_str_int (by rfl) B.str (by decide +kernel) (pa_cons (pe_ix ix_tup (pv 2) pe_int (fun _ _ => rfl)) pa_nil)) pa_nil))) pa_nil)))
    (pss_one (ps_if (pt_cmpR op_eq (pe_ix ix_tup (pv 2) pe_int (fun _ _ => rfl)) pe_str (nomark _))
      (pss_one (ps_expr (pe_bm PySem.F.plainAttrs_list PySem.F.slot_list_extend PySem.F.type_list_extend mt_extend (pv 1) (pa_cons (pe_op op_cat (pe_op op_cat (pe_lst (pa_cons pe_str pa_nil)) (pe_c C_tokens_of hr (by omega) (by rfl) (pa_cons (pe_ix ix_tup (pv 2) pe_int (fun _ _ => rfl)) pa_nil))) (pe_lst (pa_cons pe_str pa_nil))) pa_nil))))
      pss_nil))))
    (pss_one (ps_ret (pv 1))))), ?_⟩
      refine ⟨Nat.zero_le _, fun D nD => ?_⟩
      have s1 := same_new nD (o := HO.lst [])
      refine ⟨_, rfl, a, rfl, ⟨_, same_t s1 hs⟩, for_tup (K := K) (a := a) (xs := xs) (fun j σ H2 => ∃ (y : Option V), σ = [some (.ref a), some (.ref D), y] ∧ Same H H2 ∧ H2 D = some (.lst ((tkP (b.take j)).map V.str))) ⟨none, rfl, s1, by rw [List.take_zero, tkP_nil]; exact upd_same⟩ ?_ ?_ ?_⟩
      · rintro j σ H2 _ ⟨y, _, s2, _⟩
        exact same_t s2 hs
      · rintro j x σ H2 hj ⟨y, rfl, s2, hD2⟩
        obtain ⟨i, hi, hx0⟩ := hI.get hj
        have hm := List.mem_of_getElem? hi
        have gi := CtP_mem hg hm
        have sn := tkP_snoc hi
        have hcj := cnP_tk b j
        have tl := (tkP_len (ctP_tk hg j)).1
        rcases hx0.inv with ⟨e, m, rfl, ht0, rfl⟩ | ⟨e, m, rfl, ht0, rfl⟩ | ⟨e, m, y', bb, rfl, ht0, hy0, rfl⟩
        all_goals have ht := same_t s2 ht0
        · rw [CtI] at gi
          refine ⟨_, rfl, .inl ⟨rfl, _, SqL.of hD2⟩, _, rfl, e, _, 0, _, rfl, rfl, ht, rfl, _, rfl, e, _, 1, _, rfl, rfl, ht, rfl, m, rfl, lg_ct gi, sl_of (show 2 ≤ 1000000 by decide), fun L nL => ?_⟩
          have z1 := same_new nL (o := HO.lst [V.str "step", V.str (ctS m)])
          refine ⟨D, L, _, [V.str "step", V.str (ctS m)], rfl, rfl, z1 _ _ hD2, upd_same, sl_of (by rw [List.length_map]; show _ + 2 ≤ 1000000; omega), ?_⟩
          refine ⟨_, rfl, e, _, 0, _, rfl, rfl, tp_t ((Same.tp z1).trans (tp_lst (z1 _ _ hD2))) ht, rfl, rfl, _, rfl, iteN v_sr ?_⟩
          refine ⟨_, rfl, same_mut (s2.trans z1) nD, ?_⟩
          rw [upd_same, sn, List.map_append, tkI]
          rfl
        · rw [CtI] at gi
          refine ⟨_, rfl, .inl ⟨rfl, _, SqL.of hD2⟩, _, rfl, e, _, 0, _, rfl, rfl, ht, rfl, _, rfl, e, _, 1, _, rfl, rfl, ht, rfl, m, rfl, lg_ct gi, sl_of (show 2 ≤ 1000000 by decide), fun L nL => ?_⟩
          have z1 := same_new nL (o := HO.lst [V.str "turn", V.str (ctS m)])
          refine ⟨D, L, _, [V.str "turn", V.str (ctS m)], rfl, rfl, z1 _ _ hD2, upd_same, sl_of (by rw [List.length_map]; show _ + 2 ≤ 1000000; omega), ?_⟩
          refine ⟨_, rfl, e, _, 0, _, rfl, rfl, tp_t ((Same.tp z1).trans (tp_lst (z1 _ _ hD2))) ht, rfl, rfl, _, rfl, iteN v_tr ?_⟩
          refine ⟨_, rfl, same_mut (s2.trans z1) nD, ?_⟩
          rw [upd_same, sn, List.map_append, tkI]
          rfl
        · rw [CtI] at gi
          have hdi := dpP_mem hm
          rw [dpI] at hdi
          have hci := cnP_mem hm
          rw [cnI] at hci
          have tb := (tkP_len gi.2.2).1
          refine ⟨_, rfl, .inl ⟨rfl, _, SqL.of hD2⟩, _, rfl, e, _, 0, _, rfl, rfl, ht, rfl, _, rfl, e, _, 1, _, rfl, rfl, ht, rfl, m, rfl, lg_ct (by omega), sl_of (show 2 ≤ 1000000 by decide), fun L nL => ?_⟩
          have z1 := same_new nL (o := HO.lst [V.str "repeat", V.str (ctS m)])
          have hD3 := z1 _ _ hD2
          have nDH : D ≠ L := ne_of_none hD2 nL
          refine ⟨D, L, _, [V.str "repeat", V.str (ctS m)], rfl, rfl, hD3, upd_same, sl_of (by rw [List.length_map]; show _ + 2 ≤ 1000000; omega), ?_⟩
          have s3 : Same H _ := same_mut (o := HO.lst (List.map V.str (tkP (b.take j)) ++ [V.str "repeat", V.str (ctS m)])) (s2.trans z1) nD
          have hD4 : (upd (upd H2 L (HO.lst [V.str "repeat", V.str (ctS m)])) D (HO.lst (List.map V.str (tkP (b.take j)) ++ [V.str "repeat", V.str (ctS m)]))) D = some (.lst (List.map V.str (tkP (b.take j)) ++ [V.str "repeat", V.str (ctS m)])) := upd_same
          have ht3 := same_t s3 ht0
          have hy3 := hy0.same s3
          refine ⟨_, rfl, e, _, 0, _, rfl, rfl, ht3, rfl, rfl, _, rfl, iteS rfl ?_⟩
          refine ⟨_, rfl, .inl ⟨rfl, _, SqL.of hD4⟩, sl_of (show 1 ≤ 1000000 by decide), fun L1 nL1 => ?_⟩
          have w1 := same_new nL1 (o := HO.lst [V.str "["])
          refine ⟨_, rfl, e, _, 2, _, rfl, rfl, same_t w1 ht3, rfl, y', bb, rfl, hy3.same w1, by omega, by omega, gi.2.2, by omega, fun D5 H5 s5 n5 e5 => ?_⟩
          refine ⟨L1, D5, _, _, rfl, rfl, s5 _ _ upd_same, e5, sl_of (by rw [List.length_map]; show 1 + _ ≤ 1000000; omega), fun L2 nL2 => ?_⟩
          have w2 := same_new nL2 (o := HO.lst ([V.str "["] ++ (tkP bb).map V.str))
          refine ⟨sl_of (show 1 ≤ 1000000 by decide), fun L3 nL3 => ?_⟩
          have w3 := same_new nL3 (o := HO.lst [V.str "]"])
          refine ⟨L2, L3, _, _, rfl, rfl, w3 _ _ upd_same, upd_same, sl_of (by rw [List.length_append, List.length_map]; show 1 + _ + 1 ≤ 1000000; omega), fun L4 nL4 => ?_⟩
          have w4 := same_new nL4 (o := HO.lst (([V.str "["] ++ (tkP bb).map V.str) ++ [V.str "]"]))
          have S5 := w1.trans (s5.trans (w2.trans (w3.trans w4)))
          refine ⟨D, L4, _, _, rfl, rfl, S5 _ _ hD4, upd_same, sl_of (by simp only [List.length_append, List.length_map, List.length_cons, List.length_nil]; omega), ?_⟩
          refine ⟨_, rfl, same_mut (s3.trans S5) nD, ?_⟩
          rw [upd_same, sn, List.map_append, tkI, List.map_append, List.map_append, List.append_assoc]
          rfl
      · rintro σ H2 ⟨y, rfl, s2, hD2⟩
        rw [hI.len, List.take_length] at hD2
        exact ⟨_, rfl, q D H2 s2 nD hD2⟩
theorem sc_format_program : FnScope ["program"] ["program"] (defScope s_format_program) := ⟨rfl, rfl, rfl, by decide +kernel, rfl, by decide +kernel, by decide +kernel⟩
theorem ok_format_program {f : Addr} {fd : FuncData} (F : Fun K "format_program" "format_program" s_format_program f fd) (B : Blt mg) (C_tokens_of : Cal P w K mg base (3 + 0) "tokens_of" (sp_tokens_of K 3)) : FnOk P w K mg base CX0 4 f fd ["program"] (sp_format_program K) := by
  refine F.ok sc_format_program (fun vs H Q E h => ?_) (fun cdv A outer s H vs Q E hr h => ?_)
  · obtain ⟨v, b, rfl, _⟩ := h
    rfl
  · obtain ⟨v, b, rfl, hv, hd, hg, hc, q⟩ := h
    refine ⟨_, (pss_one (ps_ret (pe_join pe_str (pe_c C_tokens_of hr (by decide) (by rfl) (pa_cons (pv 0) pa_nil))))), ?_⟩
    refine ⟨⟨_, rfl⟩, _, rfl, v, b, rfl, hv, hd, by decide, hg, hc, fun D H1 s1 nD hD => ?_⟩
    have tl := tkP_len hg
    have h1 := sum_le (fun t : Str => t.length) 32 (l := tkP b) tl.2
    have l1 : (" " : Str).length = 1 := by decide +kernel
    refine ⟨" ", D, tkP b, rfl, rfl, .inl (SqL.of hD), ?_, q _ s1⟩
    rw [l1]
    have := tl.1
    omega
theorem sc_count_of : FnScope ["token", "digits", "count", "sign"] ["token"] (defScope s_count_of) := ⟨rfl, rfl, rfl, by decide +kernel, rfl, by decide +kernel, by decide +kernel⟩
theorem ok_count_of {f : Addr} {fd : FuncData} (F : Fun K "count_of" "count_of" s_count_of f fd) (B : Blt mg) {t1 t2 : Tok} (G_DIGITS : mg "DIGITS" = some (.str "0123456789" t1)) (G_LONGEST_NUMBER : mg "LONGEST_NUMBER" = some (.int 31 t2)) (C_is_count : Cal P w K mg base 2 "is_count" sp_is_countZ) : FnOk P w K mg base CX0 3 f fd ["token"] sp_count_of := by
  refine F.ok sc_count_of (fun vs H Q E h => ?_) (fun cdv A outer s H vs Q E hr h => ?_)
  · obtain ⟨t, rfl, _⟩ := h
    rfl
  · obtain ⟨t, rfl, hl, k⟩ := h
    have nd := sc_count_of.nd
    refine ⟨_, (pss_cons (ps_set (i := 1) nd rfl (.inl rfl) (pe_m1 PySem.F.slot_str_removeprefix PySem.F.type_str_removeprefix mt_removeprefix (pv 0) pe_str))
    (pss_cons (ps_if (PW.pt (pw_or (pt_not (pt_truth (pv 1) (by intro _; rfl))) (pw_or1 (pt_not (pt_val (pe_callB (cr_all rfl) (by rfl) B.all (by decide +kernel) (pa_cons (pe_lc (own := [("sign", 3)]) (by rfl) nd (pi_str (pv 1)) (blkOk_by (N := ["token", "digits", "count", "sign"]) (sc := defScope s_count_of) (own := [("sign", 3)]) (by decide +kernel)) (fun _ _ _ _ _ => (pg_name (i := 3) nd rfl (.inl rfl))) (fun _ _ _ _ _ => pts_nil) (fun _ _ _ _ _ => (pe_cmpR op_in_sign (pv 3) (pe_glob (v := .str "0123456789") rfl G_DIGITS ⟨_, rfl⟩) rfl))) pa_nil)))))))
      (pss_one (ps_ret pe_non))
      pss_nil)
    (pss_cons (ps_cut (ps_if (PW.pt (pw_and (pt_val (pe_m1 PySem.F.slot_str_startswith PySem.F.type_str_startswith mt_startswith (pv 1) pe_str)) (pw_and1 (pt_cmpR op_ne (pv 0) pe_str (nomark _)))))
      (pss_one (ps_ret pe_non))
      pss_nil))
    (pss_cons (ps_if (pt_cmpR op_gt (pe_callB call_len_str (by rfl) B.len (by decide +kernel) (pa_cons (pv 1) pa_nil)) (pe_glob (v := .int 31) rfl G_LONGEST_NUMBER ⟨_, rfl⟩) (nomark _))
      (pss_one (ps_ret pe_non))
      pss_nil)
    (pss_cons (ps_set (i := 2) nd rfl (.inl rfl) (pe_callTy call_int_str (by rfl) B.int (by decide +kernel) (pa_cons (pv 0) pa_nil)))
    (pss_one (ps_ret (pe_ifExp (pt_val (pe_c C_is_count hr (by decide) (by rfl) (pa_cons (pv 2) pa_nil))) (pv 2) pe_non)))))))), ?_⟩
    have hd : TL.tl (Txt.removeprefix t "-") = dgL (TL.tl t) := less_minus t
    have hdl : (Txt.removeprefix t "-").length ≤ t.length := by
      rw [TL.len_tl, TL.len_tl, hd]
      unfold dgL
      split <;> simp_all
    refine ⟨_, rfl, ⟨_, rfl⟩, t, "-", rfl, rfl, sl_of (show t.length ≤ 1000000 by omega), ?_⟩
    generalize Txt.removeprefix t "-" = d at hd hdl ⊢
    have bad : ¬ CtOk (TL.tl t) → ∀ H', Same H H' → Q .non H' := fun n H' s' => by
      have := k H' s'
      unfold ctOf at this
      rw [if_neg fun z => n z.1] at this
      exact this
    have dn : d.length = (dgL (TL.tl t)).length := by rw [TL.len_tl, hd]
    by_cases h0 : d.length = 0
    · refine ⟨_, rfl, false, ⟨sl_of (by omega), by rw [h0]; rfl⟩, ?_⟩
      refine iteT ?_
      exact bad (fun z => z.1 (List.length_eq_zero_iff.mp (dn.symm.trans h0))) _ (Same.refl _)
    refine ⟨_, rfl, true, ⟨sl_of (by omega), ?_⟩, iteF ?_⟩
    · symm
      rw [bne_iff_ne]
      omega
    dsimp only [tNot, tB, tCB, tCons]
    refine lcSign (z := d) (fun c => decide (48 ≤ c ∧ c ≤ 57)) (by omega) (fun R h => ⟨_, rfl, h⟩) (fun _ => rfl) (fun c H2 R h => ⟨_, rfl, c, _, rfl, rfl, by rw [in_digits]; exact h⟩) fun D H2 s2 nD hD => ?_
    refine ⟨D, _, rfl, SqL.of hD, _, rfl, ?_⟩
    rw [all_digits, show d.cps.toList = dgL (TL.tl t) from hd]
    by_cases h1 : ¬ NumText.AllDigits (dgL (TL.tl t))
    · rw [decide_eq_false h1]
      refine iteT ?_
      exact bad (fun z => h1 z.2.1) _ s2
    replace h1 := Decidable.not_not.mp h1
    rw [decide_eq_true h1]
    refine iteF ?_
    refine ⟨fun σ' H' => σ' = [some (.str t), some (.str d), none, none] ∧ H' = H2 ∧ ((dgL (TL.tl t)).head? = some 48 → TL.tl t = [48]), ?_, ?_⟩
    · refine ⟨_, rfl, ⟨_, rfl⟩, d, "0", rfl, rfl, _, rfl, ?_⟩
      rw [zero_first, hd]
      by_cases hz : (dgL (TL.tl t)).head? = some 48
      · refine iteS hz ?_
        have tz : TL.tl t = [48] ↔ t = "0" := ⟨fun z => TL.ext_tl (z.trans tl_zero.symm), fun z => by rw [z]; exact tl_zero⟩
        by_cases hs : t = "0"
        · refine ⟨_, rfl, rfl, _, rfl, iteNS (by rw [hs]) ?_⟩
          exact ⟨rfl, rfl, fun _ => tz.mpr hs⟩
        · refine ⟨_, rfl, rfl, _, rfl, iteNN (fun z => hs (V.str.inj z)) ?_⟩
          exact bad (fun z => hs (tz.mp (z.2.2.1 hz))) _ s2
      · refine iteN hz ?_
        exact ⟨rfl, rfl, fun z => absurd z hz⟩
    · rintro σ' H' ⟨rfl, rfl, hz⟩
      refine ⟨_, rfl, _, rfl, sl_of (by omega), _, _, rfl, rfl, _, rfl, ite2 (fun big => ?_) fun few => ?_⟩
      · have := of_decide_eq_true big
        exact bad (fun z => by have := z.2.2.2; omega) _ s2
      have few' : (dgL (TL.tl t)).length ≤ 31 := by
        have : ¬ ((31 : Int) < (d.length : Int)) := fun z => few (decide_eq_true z)
        omega
      have ok : CtOk (TL.tl t) := ⟨fun z => h0 (by rw [dn, z]; rfl), h1, hz, few'⟩
      have ci := ct_int ok
      refine ⟨_, rfl, t, _, rfl, ci.1, Nat.le_trans ci.2 (by decide), _, rfl, _, rfl, _, rfl, ?_⟩
      have fin := k _ s2
      unfold ctOf at fin
      by_cases hc : (ctW (TL.tl t)).natAbs ≤ 10 ^ 30
      · rw [if_pos ⟨ok, hc⟩] at fin
        refine iteS hc ?_
        exact ⟨_, rfl, fin⟩
      · rw [if_neg fun z => hc z.2] at fin
        exact iteN hc fin
theorem sc_parse_program : FnScope ["text", "reader", "program"] ["text"] (defScope s_parse_program) := ⟨rfl, rfl, rfl, by decide +kernel, rfl, by decide +kernel, by decide +kernel⟩
theorem ok_parse_program {C CI : Addr} {f : Addr} {fd : FuncData} (F : Fun K "parse_program" "parse_program" s_parse_program f fd) (B : Blt mg) (T : ClR K mg C) (Z : TxtF P w K mg base CI) (MK_Reader : MkF P w K mg base "Reader" C 1 (sp_reader C)) (M_has_ended : MetC CX0 P w K mg base C 1 "has_ended" (sp_has_ended C))
    (M_read_instruction : MetC (L2.CX P w) P w K mg base C (3 + 5) "read_instruction" (sp_read_instruction K C CI 3)) : FnOk P w K mg base (L2.CX P w) 9 f fd ["text"] (sp_parse_program K CI) := by
  refine F.okX sc_parse_program (fun vs H Q E h => ?_) (fun cdv A outer s H vs Q E hr h => ?_)
  · obtain ⟨t, rfl, _⟩ := h
    rfl
  · obtain ⟨t, rfl, hl, q, qx⟩ := h
    have nd := sc_parse_program.nd
    have tk := takes_of (X := cxOf (L2.CX P w) P w K mg base ["text", "reader", "program"] "parse_program" (defScope s_parse_program) f cdv A outer ‹Shared› H E) rfl rfl rfl rfl
    refine ⟨_, (pss_cons (ps_if (pt_not (pt_val (pe_callB call_isi (by rfl) B.isinstance (by decide +kernel) (pa_cons (pv 0) (pa_cons (pe_bltn (v := .ty "str") (u := .type "str") (by rfl) B.str (by decide +kernel) rfl) pa_nil)))))
      (pss_one (ps_raiseF Z rfl tk hr (by decide) (by rfl) (pa_cons pe_int pa_nil)))
      pss_nil)
    (pss_cons (ps_set (i := 1) nd rfl (.inl rfl) (pe_mk_ MK_Reader hr (by decide) (by rfl) (pa_cons (pe_cut (pe_ifExp (pt_truth (pv 0) (by intro _; rfl)) (pe_split (pv 0) pe_str) (pe_lst pa_nil))) pa_nil)))
    (pss_cons (ps_set (i := 2) nd rfl (.inl rfl) (pe_lst pa_nil))
    (pss_cons (ps_while (passes_of rfl) (pt_not (pt_val (pe_meth0 (pv 1) T.cl M_has_ended.hm M_has_ended.ok (hr.mono (by decide)) M_has_ended.b .nil (E := E0) pass0)))
      (pss_one (ps_expr (pe_bm PySem.F.plainAttrs_list PySem.F.slot_list_append PySem.F.type_list_append mt_append (pv 2) (pa_cons (pe_meth (pv 1) T.cl M_read_instruction.hm M_read_instruction.ok (hr.mono (by decide)) M_read_instruction.b .nil (passes_call tk (fun _ _ _ _ z => z)) (pa_cons pe_int pa_nil)) pa_nil)))))
    (pss_one (ps_ret (pv 2))))))), ?_⟩
    refine ⟨_, rfl, .str t, .ty "str", .type "str", .type "str", true, rfl, .ty _, .base (.str _), kit_ty (by decide +kernel), _, rfl, iteF ?_⟩
    refine ⟨fun x H' => ∃ ta, x = .ref ta ∧ Same H H' ∧ H ta = none ∧ H' ta = some (.lst ((tksOf t).map V.str)), ?_, ?_⟩
    · by_cases h0 : t.length = 0
      · refine ⟨_, rfl, false, ⟨sl_of (by omega), by rw [h0]; rfl⟩, iteF ?_⟩
        refine ⟨Nat.zero_le _, fun ta nta => ?_⟩
        refine ⟨ta, rfl, same_new nta, nta, ?_⟩
        rw [upd_same, show tksOf t = [] from if_pos h0]
        rfl
      · refine ⟨_, rfl, true, ⟨sl_of (by omega), ?_⟩, iteT ?_⟩
        · symm
          rw [bne_iff_ne]
          omega
        refine ⟨_, rfl, ⟨_, rfl⟩, t, " ", rfl, rfl, by decide +kernel, sl_of (by omega), fun ta nta => ?_⟩
        refine ⟨ta, rfl, same_new nta, nta, ?_⟩
        rw [upd_same, show tksOf t = Txt.split t " " from if_neg h0]
    rintro x H1 ⟨ta, rfl, s1, nta, eT⟩
    intro p dx np ndx nex
    have s2 : Same H1 (upd (upd H1 dx (.own p)) p (.ins C dx [])) := fun b o e => by
      rw [upd_ne (ne_of_none e np), upd_ne (ne_of_none e ndx)]
      exact e
    refine ⟨p, dx, ta, rfl, upd_same, fun H2 k2 e2 => ⟨rfl, ?_⟩⟩
    have np0 : H p = none := s1.free np
    have sH2 : Same H H2 := fun b o e => k2 b o (ne_of_none e np0) (s2 _ _ (s1 _ _ e))
    have few := tks_few t
    have hsh : ∀ u ∈ tksOf t, u.length ≤ 100000 := fun u hu => by
      have := tks_short hu
      omega
    have R2 : Rdr C H2 p ta (tksOf t) ⟨0, 0, 0⟩ := ⟨⟨dx, e2⟩, k2 _ _ (ne_of_none eT np) (s2 _ _ eT), Nat.zero_le _, Nat.zero_le _, by omega⟩
    refine ⟨Nat.zero_le _, fun D nD => ?_⟩
    have sD := same_new nD (o := HO.lst [])
    have npD : p ≠ D := ne_of_none e2 nD
    have naD : ta ≠ D := ne_of_none R2.tk nD
    have nHD : H D = none := sH2.free nD
    have badE : ∀ {H' : Hp} {z : Nat}, Kp p (upd H2 D (.lst [])) (upd H' D (.lst [])) → readT (tksOf t) = .bad z → BadE CI E p H' z := fun {H' z} kD hz d H'' kk nd => by
      refine qx z d H'' hz (fun b o e => ?_) nd
      have nb : b ≠ D := ne_of_none e nHD
      have nbp : b ≠ p := ne_of_none e np0
      have := kD b o nbp (by rw [upd_ne nb]; exact sH2 _ _ e)
      rw [upd_ne nb] at this
      exact kk b o nbp this
    refine ⟨fun m σ H' => ∃ s' b' ys, σ = [some (.str t), some (.ref p), some (.ref D)] ∧ Kp p (upd H2 D (.lst [])) (upd H' D (.lst [])) ∧ Rdr C H' p ta (tksOf t) s' ∧ H' D = some (.lst ys) ∧ NwP K (upd H2 D (.lst [])) H' ys b' ∧ readT (tksOf t) = rdCat b' (rdP (tksOf t) m s') ∧ (tksOf t).length < m + s'.p ∧ b'.length ≤ s'.p,
      ⟨(tksOf t).length + 1, ⟨0, 0, 0⟩, [], [], rfl, fun b o hb z => ?_, R2.same sD, upd_same, .nil, (rdCat_nil _).symm, by show (tksOf t).length < (tksOf t).length + 1 + 0; omega, Nat.zero_le _⟩, ?_⟩
    · by_cases y : b = D
      · subst y
        rw [upd_same] at z ⊢
        exact z
      · rw [upd_ne y] at z ⊢
        rw [upd_ne y]
        exact z
    rintro m σ H' ⟨s', b', ys, rfl, kD, R', hD', hN, hL, hm, hb'⟩
    obtain ⟨dx', e'⟩ := R'.ob
    obtain ⟨m, rfl⟩ : ∃ z, m = z + 1 := ⟨m - 1, by have := R'.le; omega⟩
    refine ⟨_, rfl, p, dx', _, rfl, e', rd_no _ _ (by decide +kernel), p, ta, tksOf t, s', rfl, R', _, rfl, ?_⟩
    by_cases hend : s'.p = (tksOf t).length
    · rw [decide_eq_true hend]
      refine iteF ?_
      refine ⟨_, rfl, q b' s' D ys H' ?_ (fun b o e => ?_) nHD hD' (NwP.less (H0 := upd H2 D (.lst [])) (fun x n => ?_) hN)⟩
      · rw [hL, rdP_end hend]
        show Rd.ok (b' ++ []) _ = _
        rw [List.append_nil]
      · have nb : b ≠ D := ne_of_none e nHD
        have := kD b o (ne_of_none e np0) (by rw [upd_ne nb]; exact sH2 _ _ e)
        rwa [upd_ne nb] at this
      · have nx : x ≠ D := fun z => by
          rw [z, upd_same] at n
          cases n
        rw [upd_ne nx] at n
        rw [upd_ne nx]
        exact sH2.free n
    · rw [decide_eq_false hend]
      refine iteT ?_
      refine ⟨fun σ' H'' => ∃ m', m' < m + 1 ∧ ∃ s' b' ys, σ' = [some (.str t), some (.ref p), some (.ref D)] ∧ Kp p (upd H2 D (.lst [])) (upd H'' D (.lst [])) ∧ Rdr C H'' p ta (tksOf t) s' ∧ H'' D = some (.lst ys) ∧ NwP K (upd H2 D (.lst [])) H'' ys b' ∧ readT (tksOf t) = rdCat b' (rdP (tksOf t) m' s') ∧ (tksOf t).length < m' + s'.p ∧ b'.length ≤ s'.p, fun _ _ z => z, ?_⟩
      refine ⟨_, rfl, .inl ⟨rfl, _, SqL.of hD'⟩, _, rfl, p, dx', _, rfl, e', rd_no _ _ (by decide +kernel), p, ta, tksOf t, s', rfl, by decide, by decide, R', hsh, fun i s2' v H2' hi k2' R2' hv => ?_, fun z hz => badE kD ?_⟩
      · obtain ⟨dx4, e4⟩ := R2'.ob
        have hD2 : H2' D = some (.lst ys) := k2' _ _ npD.symm hD'
        have G := (rdI_ok R'.few hi).1
        have yl := hN.len
        have Gp := G.p
        have Gq := G.q
        have big := R'.big
        refine ⟨D, ys, v, rfl, rfl, hD2, sl_lt (by omega), ?_⟩
        have t4 : Tp H' H2' := kp_tpI e' k2'
        have t5 : Tp H2' (upd H2' D (.lst (ys ++ [v]))) := tp_lst hD2
        refine ⟨m, Nat.lt_succ_self _, s2', b' ++ [i], ys ++ [v], rfl, fun b o hb z => ?_, ⟨⟨dx4, by rw [upd_ne npD]; exact e4⟩, by rw [upd_ne naD]; exact R2'.tk, R2'.le, R2'.few, R2'.big⟩, upd_same, ?_, ?_, by omega, by rw [List.length_append, List.length_singleton]; omega⟩
        · have := kD b o hb z
          by_cases y : b = D
          · subst y
            rw [upd_same] at this ⊢
            exact this
          · rw [upd_ne y] at this
            rw [upd_ne y, upd_ne y]
            exact k2' b o hb this
        · have keep : ∀ L xs, (upd H2 D (.lst [])) L = none → H2' L = some (.lst xs) → upd H2' D (.lst (ys ++ [v])) L = some (.lst xs) := fun L xs n z => by
            have nL : L ≠ D := fun y => by
              rw [y, upd_same] at n
              cases n
            rw [upd_ne nL]
            exact z
          refine NwP.app (hN.stay (fun _ _ g => tp_t (t4.trans t5) g) fun L xs n z => keep L xs n (k2' _ _ (ne_of z e' (by intro y; cases y)) z)) (.cons ?_ .nil)
          have freeD : ∀ x, H' x = none → (upd H2 D (.lst [])) x = none := fun x n => by
            have nx : x ≠ D := fun z => by
              rw [z, hD'] at n
              cases n
            cases hh : (upd H2 D (.lst [])) x with
            | none => rfl
            | some o =>
              have npx : x ≠ p := fun z => by
                rw [z, e'] at n
                cases n
              have := kD x o npx hh
              rw [upd_ne nx, n] at this
              cases this
          exact (NwI.less freeD hv).stay (fun _ _ g => tp_t t5 g) keep
        · have hi' : rdI (tksOf t) 2 s' = .ok i s2' := hi
          rw [hL, rdP_more hend hi', rdCat_cat]
      · have hz' : rdI (tksOf t) 2 s' = .bad z := hz
        rw [hL, rdP_bad hend hz']
        rfl
theorem sc_is_name : FnScope ["value", "letter"] ["value"] (defScope s_is_name) := ⟨rfl, rfl, rfl, by decide +kernel, rfl, by decide +kernel, by decide +kernel⟩
theorem in_letters (c : Nat) : decide (c ∈ ("abcdefghijklmnopqrstuvwxyz" : Str).cps.toList) = decide (97 ≤ c ∧ c ≤ 122) := by
  have e : ("abcdefghijklmnopqrstuvwxyz" : Str).cps.toList = [97, 98, 99, 100, 101, 102, 103, 104, 105, 106, 107, 108, 109, 110, 111, 112, 113, 114, 115, 116, 117, 118, 119, 120, 121, 122] := by decide +kernel
  rw [e, Bool.eq_iff_iff]
  simp
  omega
theorem all_letters (l : List Nat) : ((l.map fun c => decide (97 ≤ c ∧ c ≤ 122)).all id) = decide (∀ c ∈ l, 97 ≤ c ∧ c ≤ 122) := by
  rw [Bool.eq_iff_iff, decide_eq_true_iff, List.all_map]
  simp
theorem ok_is_name {f : Addr} {fd : FuncData} (F : Fun K "is_name" "is_name" s_is_name f fd) (B : Blt mg) {t1 t2 : Tok} (G_LETTERS : mg "LETTERS" = some (.str "abcdefghijklmnopqrstuvwxyz" t1)) (G_LONGEST_NAME : mg "LONGEST_NAME" = some (.int 8 t2)) : FnOk P w K mg base CX0 1 f fd ["value"] sp_is_name := by
  refine F.ok sc_is_name (fun vs H Q E h => ?_) (fun cdv A outer s H vs Q E hr h => ?_)
  · obtain ⟨n, rfl, _⟩ := h
    rfl
  · obtain ⟨n, rfl, hl, k⟩ := h
    have nd := sc_is_name.nd
    refine ⟨_, (pss_cons (ps_if (PW.pt (pw_or (pt_not (pt_val (pe_callB call_isi (by rfl) B.isinstance (by decide +kernel) (pa_cons (pv 0) (pa_cons (pe_bltn (v := .ty "str") (u := .type "str") (by rfl) B.str (by decide +kernel) rfl) pa_nil))))) (pw_or1 (pt_not (pt_chain op_le op_le pe_int (pe_callB call_len_str (by rfl) B.len (by decide +kernel) (pa_cons (pv 0) pa_nil)) (pe_glob (v := .int 8) rfl G_LONGEST_NAME ⟨_, rfl⟩))))))
      (pss_one (ps_ret pe_bl))
      pss_nil)
    (pss_one (ps_ret (pe_callB (cr_all rfl) (by rfl) B.all (by decide +kernel) (pa_cons (pe_lc (own := [("letter", 1)]) (by rfl) nd (pi_str (pv 0)) (blkOk_by (N := ["value", "letter"]) (sc := defScope s_is_name) (own := [("letter", 1)]) (by decide +kernel)) (fun _ _ _ _ _ => (pg_name (i := 1) nd rfl (.inl rfl))) (fun _ _ _ _ _ => pts_nil) (fun _ _ _ _ _ => (pe_cmpR op_in_sign (pv 1) (pe_glob (v := .str "abcdefghijklmnopqrstuvwxyz") rfl G_LETTERS ⟨_, rfl⟩) rfl))) pa_nil))))), ?_⟩
    refine ⟨_, rfl, .str n, .ty "str", .type "str", .type "str", true, rfl, .ty _, .base (.str _), kit_ty (by decide +kernel), _, rfl, iteF ?_⟩
    refine ⟨_, rfl, n, rfl, sl_of (by omega), ?_⟩
    have no : ¬ (1 ≤ n.length ∧ n.length ≤ 8) → ∀ H', Same H H' → Q (.bl false) H' := fun z H' s' => by
      have q := k H' s'
      unfold nameOk at q
      rw [decide_eq_false z, Bool.false_and] at q
      exact q
    refine ⟨_, _, rfl, rfl, _, rfl, ite2 (fun h1 => ?_) fun h1 => ?_⟩
    · have h1 : (1 : Int) ≤ (n.length : Int) := of_decide_eq_true h1
      by_cases h8 : n.length ≤ 8
      · have e8 : decide (((n.length : Nat) : Int) ≤ 8) = true := decide_eq_true (by omega)
        refine ⟨_, _, rfl, rfl, _, rfl, ?_⟩
        rw [e8]
        refine iteF ?_
        dsimp only [tNext, tRet, tCB, tCons, tNil]
        refine lcSign (z := n) (fun c => decide (97 ≤ c ∧ c ≤ 122)) hl (fun R h => ⟨_, rfl, h⟩) (fun _ => rfl) (fun c H2 R h => ⟨_, rfl, c, _, rfl, rfl, by rw [in_letters]; exact h⟩) fun D H2 s2 nD hD => ?_
        refine ⟨D, _, rfl, SqL.of hD, ?_⟩
        rw [all_letters]
        have q := k H2 s2
        unfold nameOk at q
        rw [decide_eq_true (show 1 ≤ n.length ∧ n.length ≤ 8 by omega), Bool.true_and] at q
        exact q
      · have e8 : decide (((n.length : Nat) : Int) ≤ 8) = false := decide_eq_false (by omega)
        refine ⟨_, _, rfl, rfl, _, rfl, ?_⟩
        rw [e8]
        exact iteT (no (fun z => h8 z.2) H (Same.refl _))
    · refine ⟨_, rfl, iteT (no (fun z => h1 ?_) H (Same.refl _))⟩
      exact decide_eq_true (by omega)
theorem sc_copied_action : FnScope ["action", "word", "name", "what"] ["action"] (defScope s_copied_action) := ⟨rfl, rfl, rfl, by decide +kernel, rfl, by decide +kernel, by decide +kernel⟩
theorem ok_copied_action {f : Addr} {fd : FuncData} (F : Fun K "copied_action" "copied_action" s_copied_action f fd) (B : Blt mg) (C_copied : Cal P w K mg base (3 + 0) "copied" (sp_copied K 3)) : FnOk P w K mg base CX0 4 f fd ["action"] (sp_copied_action K) := by
  refine F.ok sc_copied_action (fun vs H Q E h => ?_) (fun cdv A outer s H vs Q E hr h => ?_)
  · obtain ⟨v, a, rfl, _⟩ := h
    rfl
  · obtain ⟨v, a, rfl, hv, hb, k⟩ := h
    have nd := sc_copied_action.nd
    refine ⟨_, (pss_cons (ps_asg (pv 0) (pg_tup rfl (pgs_cons (pg_name (i := 1) nd rfl (.inl rfl)) (pgs_cons (pg_name (i := 2) nd rfl (.inl rfl)) (pgs_cons (pg_name (i := 3) nd rfl (.inl rfl)) pgs_nil)))))
    (pss_one (ps_ret (pe_ifExp (pt_cmpR op_eq (pv 1) pe_str (nomark _)) (pe_tup (pa_cons (pv 1) (pa_cons (pv 2) (pa_cons (pe_c C_copied hr (by decide) (by rfl) (pa_cons (pv 3) pa_nil)) pa_nil)))) (pv 0))))), ?_⟩
    cases a with
    | enter n pl =>
      obtain ⟨t, rfl, ht⟩ := hv
      refine ⟨_, rfl, t, _, rfl, ht, rfl, ?_⟩
      refine ⟨_, _, rfl, _, _, rfl, _, _, rfl, rfl, _, rfl, rfl, _, rfl, iteN (by decide +kernel) ⟨_, rfl, k _ H (Same.refl _) ⟨t, rfl, tp_t (er_tp H) ht⟩⟩⟩
    | run n d b =>
      obtain ⟨t, u, rfl, ht, hd, hp⟩ := hv
      refine ⟨_, rfl, t, _, rfl, ht, rfl, ?_⟩
      obtain ⟨hb1, hb2⟩ := hb n d b rfl
      refine ⟨_, _, rfl, _, _, rfl, _, _, rfl, rfl, _, rfl, rfl, _, rfl, iteS rfl ⟨_, rfl, _, rfl, _, rfl, u, d, b, rfl, hd, hp, hb1, by decide, hb2, fun v' H' s' hv' => ⟨sl_of (show 3 ≤ 1000000 by decide), fun t nt => ?_⟩⟩⟩
      have st := same_new nt (o := HO.tup [V.str "run", V.str n, v'])
      refine k _ _ (s'.trans st) ⟨t, v', rfl, SqT.of (er_of upd_same fun xs z => ?_), Dp.same (er_same st) hv', hp⟩
      rw [s' _ _ z] at nt
      cases nt
theorem sc_plain_action : FnScope ["action", "word", "name", "what"] ["action"] (defScope s_plain_action) := ⟨rfl, rfl, rfl, by decide +kernel, rfl, by decide +kernel, by decide +kernel⟩
theorem ok_plain_action {f : Addr} {fd : FuncData} (F : Fun K "plain_action" "plain_action" s_plain_action f fd) (B : Blt mg) (C_with_lists : Cal P w K mg base (3 + 0) "with_lists" (sp_with_lists K 3)) : FnOk P w K mg base CX0 4 f fd ["action"] (sp_plain_action K) := by
  refine F.ok sc_plain_action (fun vs H Q E h => ?_) (fun cdv A outer s H vs Q E hr h => ?_)
  · obtain ⟨v, a, rfl, _⟩ := h
    rfl
  · obtain ⟨v, a, rfl, hv, hb, k⟩ := h
    have nd := sc_plain_action.nd
    refine ⟨_, (pss_cons (ps_asg (pv 0) (pg_tup rfl (pgs_cons (pg_name (i := 1) nd rfl (.inl rfl)) (pgs_cons (pg_name (i := 2) nd rfl (.inl rfl)) (pgs_cons (pg_name (i := 3) nd rfl (.inl rfl)) pgs_nil)))))
    (pss_one (ps_ret (pe_ifExp (pt_cmpR op_eq (pv 1) pe_str (nomark _)) (pe_tup (pa_cons (pv 1) (pa_cons (pv 2) (pa_cons (pe_c C_with_lists hr (by decide) (by rfl) (pa_cons (pv 3) pa_nil)) pa_nil)))) (pv 0))))), ?_⟩
    cases a with
    | enter n pl =>
      obtain ⟨t, rfl, ht⟩ := hv
      refine ⟨_, rfl, t, _, rfl, ht, rfl, ?_⟩
      refine ⟨_, _, rfl, _, _, rfl, _, _, rfl, rfl, _, rfl, rfl, _, rfl, iteN (by decide +kernel) ⟨_, rfl, k _ H (Same.refl _) ⟨t, rfl, tp_t (er_tp H) ht⟩⟩⟩
    | run n d b =>
      obtain ⟨t, u, rfl, ht, hd, hp⟩ := hv
      refine ⟨_, rfl, t, _, rfl, ht, rfl, ?_⟩
      obtain ⟨hb1, hb2⟩ := hb n d b rfl
      refine ⟨_, _, rfl, _, _, rfl, _, _, rfl, rfl, _, rfl, rfl, _, rfl, iteS rfl ⟨_, rfl, _, rfl, _, rfl, u, d, b, rfl, hd, hp, hb1, by decide, hb2, fun v' H' s' hv' => ⟨sl_of (show 3 ≤ 1000000 by decide), fun t nt => ?_⟩⟩⟩
      have st := same_new nt (o := HO.tup [V.str "run", V.str n, v'])
      refine k _ _ (s'.trans st) ⟨t, v', rfl, SqT.of (er_of upd_same fun xs z => ?_), Dp.same (er_same st) hv', .lst (isA_ld b)⟩
      rw [s' _ _ z] at nt
      cases nt
theorem sc_line_of : FnScope ["action", "word", "name", "what"] ["action"] (defScope s_line_of) := ⟨rfl, rfl, rfl, by decide +kernel, rfl, by decide +kernel, by decide +kernel⟩
theorem ok_line_of {f : Addr} {fd : FuncData} (F : Fun K "line_of" "line_of" s_line_of f fd) (B : Blt mg) (C_format_program : Cal P w K mg base 4 "format_program" (sp_format_program K)) : FnOk P w K mg base CX0 5 f fd ["action"] (sp_line_of K) := by
  refine F.ok sc_line_of (fun vs H Q E h => ?_) (fun cdv A outer s H vs Q E hr h => ?_)
  · obtain ⟨v, a, rfl, _⟩ := h
    rfl
  · obtain ⟨v, a, rfl, hv, ok, k⟩ := h
    have nd := sc_line_of.nd
    have big : 40000 ≤ sizeLine := by decide +kernel
    refine ⟨_, (pss_cons (ps_asg (pv 0) (pg_tup rfl (pgs_cons (pg_name (i := 1) nd rfl (.inl rfl)) (pgs_cons (pg_name (i := 2) nd rfl (.inl rfl)) (pgs_cons (pg_name (i := 3) nd rfl (.inl rfl)) pgs_nil)))))
    (pss_cons (ps_if (pt_cmpR op_eq (pv 1) pe_str (nomark _))
      (pss_one (ps_ret (pe_joined (PJ.cons pe_str (PJ.cons (pe_fmt (pv 2)) (PJ.cons pe_str (PJ.cons (pe_fmt (pv 3)) PJ.nil)))))))
      pss_nil)
    (pss_one (ps_ret (pe_join pe_str (pe_op op_cat (pe_lst (pa_cons pe_str (pa_cons (pv 2) pa_nil))) (pe_ifExp (pt_truth (pv 3) (by intro _; rfl)) (pe_lst (pa_cons (pe_c C_format_program hr (by decide) (by rfl) (pa_cons (pv 3) pa_nil)) pa_nil)) (pe_lst pa_nil)))))))), ?_⟩
    cases a with
    | enter n pl =>
      obtain ⟨t, rfl, ht⟩ := hv
      have nl := (name_tl ok.1).2.2
      have cl := ct_short ok.2
      refine ⟨_, rfl, t, _, rfl, ht, rfl, ?_⟩
      refine ⟨_, _, rfl, _, _, rfl, _, _, rfl, rfl, _, rfl, rfl, _, rfl, iteS rfl ?_⟩
      obtain ⟨l1, l2, l3, l4⟩ := enter_lens n pl
      refine ⟨_, rfl, by rw [l1]; omega, _, rfl, .inl ⟨n, rfl, by omega, _, rfl, by rw [l2]; omega, _, rfl, by rw [l3]; omega, _, rfl, .inr ⟨pl, rfl, lg_ct ok.2, _, rfl, by show (Str.empty ++ "enter " ++ n ++ " " ++ ctS pl).length ≤ _; rw [l4]; omega, ?_⟩⟩⟩
      show Q (.str (Str.empty ++ "enter " ++ n ++ " " ++ ctS pl)) H
      rw [ln_enter]
      exact k H (Same.refl _)
    | run n d b =>
      obtain ⟨t, u, rfl, ht, hd, hp⟩ := hv
      have nl := ok.name
      have po := ok.2.1
      obtain ⟨pa, xs, rfl, hsq, hI⟩ := (show PV K H u b from ⟨d, hd, hp⟩).inv
      have xl := hI.len
      refine ⟨_, rfl, t, _, rfl, ht, rfl, ?_⟩
      refine ⟨_, _, rfl, _, _, rfl, _, _, rfl, rfl, _, rfl, rfl, _, rfl, iteN (by decide +kernel) ?_⟩
      refine ⟨⟨_, rfl⟩, _, rfl, sl_of (show 2 ≤ 1000000 by decide), fun L nL => ?_⟩
      have sL := same_new nL (o := HO.lst [V.str "run", V.str n])
      have hL : (upd H L (.lst [V.str "run", V.str n])) L = some (.lst [V.str "run", V.str n]) := upd_same
      generalize upd H L (.lst [V.str "run", V.str n]) = H1 at sL hL
      have tr : TruV K (.ref pa) H1 (!b.isEmpty) := by
        have e : xs.isEmpty = b.isEmpty := by
          cases xs <;> cases b <;> first | rfl | (simp at xl)
        rcases hsq with z | z
        · exact .inl ⟨xs, same_l sL z, by rw [e]⟩
        · exact .inr (.inl ⟨xs, same_t sL z, by rw [e]⟩)
      refine ⟨_, rfl, _, tr, ?_⟩
      have w1 : (" " : Str).length = 1 := by decide +kernel
      have w3 : ("run" : Str).length = 3 := by decide +kernel
      cases b with
      | nil =>
        refine iteF ⟨Nat.zero_le _, fun M nM => ?_⟩
        have sM := same_new nM (o := HO.lst [])
        have hM : (upd H1 M (.lst [])) M = some (.lst []) := upd_same
        generalize upd H1 M (.lst []) = H2 at sM hM
        refine ⟨L, M, _, _, rfl, rfl, sM _ _ hL, hM, by show 2 + 0 ≤ _; omega, fun N nN => ?_⟩
        refine ⟨" ", N, [("run" : Str), n], rfl, rfl, .inl (SqL.of upd_same), ?_, ?_⟩
        · rw [w1]
          show ("run" : Str).length + (n.length + 0) + 2 * 1 ≤ _
          omega
        · have e : lnA (.run n d []) = jn [("run" : Str), n] := by
            show jn ([("run" : Str), n] ++ tkP []) = _
            rw [tkP_nil, List.append_nil]
          rw [e] at k
          exact k _ (sL.trans (sM.trans (same_new nN)))
      | cons i r =>
        have ne : tkP (i :: r) ≠ [] := fun z => by cases tkP_none.mp z
        have tn := tx_len po.ct
        have cn := po.cn
        refine iteT ⟨_, rfl, .ref pa, i :: r, rfl, PV.same sL ⟨d, hd, hp⟩, po.dp, po.ct, Nat.le_trans cn (by decide), fun H2 s2 => ?_⟩
        refine ⟨sl_of (show 1 ≤ 1000000 by decide), fun M nM => ?_⟩
        have sM := same_new nM (o := HO.lst [V.str (txP (i :: r))])
        have hM : (upd H2 M (.lst [V.str (txP (i :: r))])) M = some (.lst [V.str (txP (i :: r))]) := upd_same
        generalize upd H2 M (.lst [V.str (txP (i :: r))]) = H3 at sM hM
        refine ⟨L, M, _, _, rfl, rfl, sM _ _ (s2 _ _ hL), hM, by show 2 + 1 ≤ _; omega, fun N nN => ?_⟩
        refine ⟨" ", N, [("run" : Str), n, txP (i :: r)], rfl, rfl, .inl (SqL.of upd_same), ?_, ?_⟩
        · rw [w1]
          show ("run" : Str).length + (n.length + ((txP (i :: r)).length + 0)) + 3 * 1 ≤ _
          omega
        · rw [← ln_run (d := d) ne] at k
          exact k _ (sL.trans (s2.trans (sM.trans (same_new nN))))
theorem sc_save : FnScope ["road", "action"] ["road"] (defScope s_save) := ⟨rfl, rfl, rfl, by decide +kernel, rfl, by decide +kernel, by decide +kernel⟩
theorem ok_save {C : Addr} {f : Addr} {fd : FuncData} (F : Fun K "save" "save" s_save f fd) (B : Blt mg) (T : ClRo K mg C) (M_actions : MetC CX0 P w K mg base C 5 "actions" (sp_actions K C)) (C_line_of : Cal P w K mg base 5 "line_of" (sp_line_of K)) : FnOk P w K mg base CX0 6 f fd ["road"] (sp_save K C) := by
  refine F.ok sc_save (fun vs H Q E h => ?_) (fun cdv A outer s H vs Q E hr h => ?_)
  · obtain ⟨r, D, T0, q, as, bs, M, rfl, _⟩ := h
    rfl
  · obtain ⟨r, D, T0, q, as, bs, M, rfl, R, q0, q97, ok, few, k⟩ := h
    have nd := sc_save.nd
    have big : 1000000 ≤ sizeLine := by decide +kernel
    obtain ⟨dx, hr0⟩ := R.ob
    have hq : q.natAbs ≤ 10 ^ 30 := Nat.le_trans (show q.natAbs ≤ 97 by omega) (by decide +kernel)
    have l1 : (Str.empty ++ "prime " : Str).length = 6 := by decide +kernel
    have l2 : (prL q).length ≤ 40 := prL_len hq
    refine ⟨_, (pss_one (ps_ret (pe_join pe_str (pe_op op_cat (pe_lst (pa_cons (pe_joined (PJ.cons pe_str (PJ.cons (pe_fmt (pe_fld (pv 0) rfl)) PJ.nil))) pa_nil)) (pe_lc (own := [("action", 1)]) (by rfl) nd (pi_list (pe_meth0 (pv 0) T.cl M_actions.hm M_actions.ok (hr.mono (by decide)) M_actions.b .nil (E := E0) pass0)) (blkOk_by (N := ["road", "action"]) (sc := defScope s_save) (own := [("action", 1)]) (by decide +kernel)) (fun _ _ _ _ _ => (pg_name (i := 1) nd rfl (.inl rfl))) (fun _ _ _ _ _ => pts_nil) (fun _ _ _ _ _ => (pe_c C_line_of hr (by decide) (by rfl) (pa_cons (pv 1) pa_nil)))))))), ?_⟩
    refine ⟨⟨_, rfl⟩, ?_⟩
    refine ⟨_, rfl, by rw [l1]; omega, _, rfl, r, C, dx, _, _, rfl, hr0, T.cl, T.np, ro_prime _ _ _, .inr ⟨q, rfl, lg_ct hq, _, rfl, Nat.le_trans l2 (by omega), ?_⟩⟩
    refine ⟨sl_of (show 1 ≤ 1000000 by decide), fun L nL => ?_⟩
    refine lcWx (fun J H2 => ∃ A ys, J = Itl K A ∧ Same H H2 ∧ H2 L = some (.lst [V.str (prL q)]) ∧ H2 A = some (.lst ys) ∧ ActVs K H2 ys as) (fun S hS => ⟨_, rfl, r, dx, _, rfl, same_new nL _ _ hr0, ro_no _ _ _ (by decide +kernel), r, D, T0, q, as, bs, M, rfl, R.same (same_new nL), fun A ys H2 s2 nA hA hY => ⟨A, rfl, ⟨_, SqL.of hA⟩, hS _ _ ⟨A, ys, rfl, (same_new nL).trans s2, s2 _ _ upd_same, hA, hY.same fun b o e => (er_at (er1_at e).2).1⟩⟩⟩) ?_
    rintro J H2 ⟨A, ys, rfl, s02, hL2, hA, hY2⟩
    have ly := hY2.len
    refine lcW (n := ys.length) (J := Itl K A) (walk_list (K := K) (a := A) (xs := ys)) (fun m G v => ∃ c, as[m]? = some c ∧ v = .str (lnA c)) (fun m G1 G2 v s h => h) (fun S hS => hS) (fun H' s' => SqL.of (s' _ _ hA)) (by omega) (fun m x H3 H4 hm s3 hy S hS => ?_) fun N ws H3 nN s3 hN wl hR => ?_
    · obtain ⟨rfl, hx⟩ := hy
      obtain ⟨a, ha, hv⟩ := hY2.get hx
      exact ⟨rfl, _, rfl, x, a, rfl, hv.same s3, ok a (List.mem_of_getElem? ha), fun H5 s5 => hS _ H5 s5 fun D0 _ _ => ⟨a, ha, rfl⟩⟩
    have ew : ws = (as.map lnA).map V.str := by
      refine List.ext_getElem? fun i => ?_
      rw [List.map_map, List.getElem?_map]
      cases e : ws[i]? with
      | none =>
        have : as[i]? = none := by
          rw [List.getElem?_eq_none_iff] at e ⊢
          omega
        rw [this]
        rfl
      | some y =>
        obtain ⟨c, hc, rfl⟩ := hR i y e
        rw [hc]
        rfl
    rw [ew] at hN
    refine ⟨L, N, _, _, rfl, rfl, s3 _ _ hL2, hN, by rw [List.length_map, List.length_map]; show 1 + _ ≤ _; omega, fun O nO => ?_⟩
    have h2 := sum_le (fun t : Str => t.length) 14000 (l := as.map lnA) fun t ht => by
      obtain ⟨a, ha, rfl⟩ := List.mem_map.mp ht
      exact lnA_len (ok a ha)
    rw [List.length_map] at h2
    refine ⟨"\n", O, prL q :: as.map lnA, rfl, rfl, .inl (SqL.of upd_same), ?_, k _ (s02.trans (s3.trans (same_new nO)))⟩
    have w1 : ("\n" : Str).length = 1 := by decide +kernel
    rw [w1, List.length_cons, List.length_map, List.map_cons, List.sum_cons]
    omega
theorem sc_new_road : FnScope ["line", "prime"] ["line"] (defScope s_new_road) := ⟨rfl, rfl, rfl, by decide +kernel, rfl, by decide +kernel, by decide +kernel⟩
theorem ok_new_road {C a_PRIMES : Addr} {f : Addr} {fd : FuncData} (F : Fun K "new_road" "new_road" s_new_road f fd) (B : Blt mg) (MK_Road : MkF P w K mg base "Road" C 1 (sp_road C)) (G_PRIMES : mg "PRIMES" = some (.ref a_PRIMES) ∧ TupG K a_PRIMES primesL) : FnOk P w K mg base CX0 3 f fd ["line"] (sp_new_road C) := by
  refine F.ok sc_new_road (fun vs H Q E h => ?_) (fun cdv A outer s H vs Q E hr h => ?_)
  · obtain ⟨q, rfl, _⟩ := h
    rfl
  · obtain ⟨q, rfl, mem, k⟩ := h
    have nd := sc_new_road.nd
    have big : 1000000 ≤ sizeLine := by decide +kernel
    have l1 : (Str.empty ++ "prime " : Str).length = 6 := by decide +kernel
    have sml : ∀ z ∈ primesL, z.natAbs ≤ 10 ^ 30 := fun z hz => by
      have := primes_rng z hz
      exact Nat.le_trans (show z.natAbs ≤ 97 by omega) (by decide +kernel)
    obtain ⟨i, hi⟩ := List.getElem?_of_mem mem
    refine ⟨_, (pss_cons (ps_for PassesOwn.never rfl (pi_tup (pe_glob (v := .ref a_PRIMES) rfl G_PRIMES.1 rfl)) (pg_name (i := 1) nd rfl (.inl rfl))
      (pss_one (ps_if (pt_cmpR op_eq (pv 0) (pe_joined (PJ.cons pe_str (PJ.cons (pe_fmt (pv 1)) PJ.nil))) (nomark _))
      (pss_one (ps_ret (pe_mk_ MK_Road hr (by decide) (by rfl) (pa_cons (pv 1) pa_nil))))
      pss_nil)))
    (pss_one ps_never)), ?_⟩
    refine ⟨a_PRIMES, rfl, ⟨_, G_PRIMES.2.sq H⟩, for_tup (K := K) (a := a_PRIMES) (xs := primesL.map V.int) (fun j σ H2 => ∃ y : Option V, σ = [some (.str (prL q)), y] ∧ H2 = H ∧ j ≤ i) ⟨none, rfl, rfl, Nat.zero_le _⟩ (fun j σ H2 _ _ => G_PRIMES.2.sq H2) ?_ ?_⟩
    · rintro j x σ H2 hj ⟨y, rfl, rfl, ji⟩
      rw [List.getElem?_map] at hj
      cases hz : primesL[j]? with
      | none =>
        rw [hz] at hj
        cases hj
      | some z =>
        rw [hz] at hj
        cases hj
        have hzm := List.mem_of_getElem? hz
        refine ⟨_, rfl, _, rfl, by rw [l1]; omega, _, rfl, .inr ⟨z, rfl, lg_ct (sml z hzm), _, rfl, Nat.le_trans (prL_len (sml z hzm)) (by omega), ?_⟩⟩
        by_cases e : z = q
        · subst e
          refine ⟨rfl, _, rfl, ?_⟩
          rw [show decide (V.str (prL z) = V.str (Str.empty ++ "prime " ++ (toString z : Str))) = true from decide_eq_true rfl]
          refine iteT ?_
          refine ⟨_, rfl, ?_⟩
          intro r dx nr ndx nex
          have s1 : Same H2 (upd (upd H2 dx (.own r)) r (.ins C dx [])) := fun b o e => by
            rw [upd_ne (ne_of_none e nr), upd_ne (ne_of_none e ndx)]
            exact e
          refine ⟨r, dx, z, rfl, upd_same, fun D T0 H6 k6 nD nT DT hr6 hD6 hT6 => ⟨rfl, ?_⟩⟩
          exact k r dx D T0 H6 (fun b o e => k6 b o (ne_of_none e nr) (s1 _ _ e)) nr (none_before s1 nD) (none_before s1 nT) DT hr6 hD6 hT6
        · have ne : ¬ V.str (prL q) = V.str (Str.empty ++ "prime " ++ (toString z : Str)) := fun y => e (prL_inj (sml q mem) (sml z hzm) (V.str.inj y)).symm
          refine ⟨rfl, _, rfl, ?_⟩
          rw [decide_eq_false ne]
          refine iteF ?_
          refine ⟨_, rfl, rfl, ?_⟩
          have : j ≠ i := fun y => by
            rw [y, hi] at hz
            exact e (Option.some.inj hz).symm
          omega
    · rintro σ H2 ⟨y, rfl, rfl, ji⟩
      have := (List.getElem?_eq_some_iff.mp hi).1
      rw [List.length_map] at ji
      omega
theorem sc_read_line : FnScope ["road", "position", "line", "tokens"] ["road", "position", "line"] (defScope s_read_line) := ⟨rfl, rfl, rfl, by decide +kernel, rfl, by decide +kernel, by decide +kernel⟩
theorem ok_read_line {C CI : Addr} {f : Addr} {fd : FuncData} (F : Fun K "read_line" "read_line" s_read_line f fd) (B : Blt mg) (T : ClRo K mg C) (M_enter : MetC CX0 P w K mg base C 3 "enter" (sp_enter K C)) (M_run : MetC CX0 P w K mg base C 8 "run" (sp_run K C)) (C_count_of : Cal P w K mg base 3 "count_of" sp_count_of) (C_parse_program : CalE P w K mg base 9 "parse_program" (sp_parse_program K CI)) : FnOk P w K mg base CX0 10 f fd ["road", "position", "line"] (sp_read_line K C) := by
  refine F.ok sc_read_line (fun vs H Q E h => ?_) (fun cdv A outer s H vs Q E hr h => ?_)
  · obtain ⟨r, D, T0, p, q, j, as, bs, a, M, rfl, _⟩ := h
    rfl
  · obtain ⟨r, D, T0, p, q, j, as, bs, a, M, rfl, R, mok, act, ok, few, k⟩ := h
    have nd := sc_read_line.nd
    have hu2 := hr.units
    have big : 1000000 ≤ sizeLine := by decide +kernel
    obtain ⟨dx, hr0⟩ := R.ob
    have ll := lnA_len ok
    refine ⟨_, (pss_cons (ps_set (i := 3) nd rfl (.inl rfl) (pe_split (pv 2) pe_str))
    (pss_one (ps_if (PW.pt (pw_and (pt_cmpR op_eq (pe_ix ix_list (pv 3) pe_int (fun _ _ => rfl)) pe_str (nomark _)) (pw_and1 (pt_cmpR op_eq (pe_callB call_len_seq (by rfl) B.len (by decide +kernel) (pa_cons (pv 3) pa_nil)) pe_int (nomark _)))))
      (pss_one (ps_expr (pe_meth (pv 0) T.cl M_enter.hm M_enter.ok (hr.mono (by decide)) M_enter.b .nil (E := E0) pass0 (pa_cons (pe_ix ix_list (pv 3) pe_int (fun _ _ => rfl)) (pa_cons (pe_c C_count_of hr (by decide) (by rfl) (pa_cons (pe_ix ix_list (pv 3) pe_int (fun _ _ => rfl)) pa_nil)) pa_nil)))))
      (pss_one (ps_if (PW.pt (pw_and (pt_cmpR op_eq (pe_ix ix_list (pv 3) pe_int (fun _ _ => rfl)) pe_str (nomark _)) (pw_and (pt_cmpR op_gt (pe_callB call_len_seq (by rfl) B.len (by decide +kernel) (pa_cons (pv 3) pa_nil)) pe_int (nomark _)) (pw_and1 (pt_cmpR (op_neD hu2) (pe_slice sl_list (pv 3) (po_some pe_int) po_none) (pe_lst (pa_cons pe_str pa_nil)) (nomark _))))))
      (pss_one (ps_expr (pe_meth (pv 0) T.cl M_run.hm M_run.ok (hr.mono (by decide)) M_run.b .nil (E := E0) pass0 (pa_cons (pe_ix ix_list (pv 3) pe_int (fun _ _ => rfl)) (pa_cons (pe_cE0 C_parse_program hr (by decide) (by rfl) (pa_cons (pe_join pe_str (pe_slice sl_list (pv 3) (po_some pe_int) po_none)) pa_nil)) pa_nil)))))
      (pss_one ps_never)))))), ?_⟩
    refine ⟨_, rfl, ⟨_, rfl⟩, lnA a, " ", rfl, rfl, by decide +kernel, by omega, fun L nL => ?_⟩
    rw [lnA_split ok]
    obtain ⟨H1, eH1⟩ : ∃ X, X = upd H L (.lst ((tkA a).map V.str)) := ⟨_, rfl⟩
    have sL : Same H H1 := by rw [eH1]; exact same_new nL
    have hL : H1 L = some (.lst ((tkA a).map V.str)) := by rw [eH1]; exact upd_same
    rw [← eH1]
    clear eH1
    have R1 := R.same sL
    have m1 := mok.same sL
    have hr1 := sL _ _ hr0
    cases a with
    | enter n pl =>
      have hL' : SqL K H1 L [V.str "enter", V.str n, V.str (ctS pl)] := SqL.of hL
      refine ⟨_, rfl, L, _, 0, _, rfl, rfl, hL', rfl, rfl, _, rfl, iteS rfl ?_⟩
      refine ⟨_, rfl, L, _, rfl, .inl hL', rfl, _, rfl, iteT ?_⟩
      refine ⟨_, rfl, r, dx, _, rfl, hr1, ro_no _ _ _ (by decide +kernel), _, rfl, L, _, 1, _, rfl, rfl, hL', rfl, _, rfl, L, _, 2, _, rfl, rfl, hL', rfl, ctS pl, rfl, by have := ct_short ok.2; omega, fun H2 s2 => ?_⟩
      rw [ct_back ok.2]
      exact ⟨r, D, T0, p, q, as, bs, M, n, pl, rfl, R1.same s2, m1.same s2, ok.1, act.2.1, ok.2, few, fun H3 k3 m3 R3 => k H3 ((Same.ks (sL.trans s2)).trans k3) m3 R3⟩
    | run n d b =>
      have po := ok.2.1
      have hL' : SqL K H1 L (V.str "run" :: V.str n :: (tkP b).map V.str) := SqL.of hL
      have tn := tx_len po.ct
      have cn := po.cn
      refine ⟨_, rfl, L, _, 0, _, rfl, rfl, hL', at_head _ _, rfl, _, rfl, iteN (by decide +kernel) ?_⟩
      refine ⟨_, rfl, L, _, 0, _, rfl, rfl, hL', at_head _ _, rfl, _, rfl, iteS rfl ?_⟩
      refine ⟨_, rfl, L, _, rfl, .inl hL', _, _, rfl, rfl, _, rfl, ?_⟩
      rw [decide_eq_true (show (1 : Int) < ((V.str "run" :: V.str n :: (tkP b).map V.str).length : Int) by rw [List.length_cons, List.length_cons]; omega)]
      refine iteT ?_
      refine ⟨_, rfl, 2, rfl, L, _, rfl, hL', fun N nN => ?_⟩
      refine ⟨sl_of (show 1 ≤ 1000000 by decide), fun O nO => ?_⟩
      have cutE : cutV (V.str "run" :: V.str n :: (tkP b).map V.str) (some 2) none = (tkP b).map V.str := cut2 _
      rw [cutE] at nO
      rw [cutE]
      obtain ⟨H2, eH2⟩ : ∃ X, X = upd (upd H1 N (.lst ((tkP b).map V.str))) O (.lst [V.str ""]) := ⟨_, rfl⟩
      have sN : Same H1 H2 := by rw [eH2]; exact (same_new nN).trans (same_new nO)
      have hN : H2 N = some (.lst ((tkP b).map V.str)) := by rw [eH2]; exact same_new nO _ _ upd_same
      have hO : H2 O = some (.lst [V.str ""]) := by rw [eH2]; exact upd_same
      refine ⟨.list ((tkP b).map PyData.str), .list [PyData.str ""], ?_, ?_, toks_shaped b, none_shaped, ?_⟩
      · rw [← eH2]
        exact .lst (SqL.of hN) (all_strs _)
      · rw [← eH2]
        exact .lst (SqL.of hO) (all_strs [""])
      rw [← eH2]
      clear eH2
      rw [toks_no]
      refine ⟨_, rfl, iteT ?_⟩
      have hL2 : SqL K H2 L (V.str "run" :: V.str n :: (tkP b).map V.str) := same_l sN hL'
      refine ⟨_, rfl, r, dx, _, rfl, sN _ _ hr1, ro_no _ _ _ (by decide +kernel), _, rfl, L, _, 1, _, rfl, rfl, hL2, at_next _ _ _, ⟨_, rfl⟩, _, rfl, 2, rfl, L, _, rfl, hL2, fun U nU => ?_⟩
      rw [cutE]
      refine ⟨" ", U, tkP b, rfl, rfl, .inl (SqL.of upd_same), ?_, ?_⟩
      · have tl := tkP_len po.ct
        have h1 := sum_le (fun t : Str => t.length) 32 (l := tkP b) tl.2
        have l1 : (" " : Str).length = 1 := by decide +kernel
        rw [l1]
        omega
      have sU := same_new nU (o := HO.lst ((tkP b).map V.str))
      obtain ⟨s9, hread⟩ := po.read
      refine ⟨txP b, rfl, by omega, fun b' s1 D9 xs9 H3 e3 s3 n3 h3 hN3 => ?_, fun z d9 H3 e3 s3 n3 => ?_⟩
      · rw [tx_back, hread] at e3
        cases e3
        have sA := sN.trans (sU.trans s3)
        exact ⟨r, D, T0, p, q, as, bs, M, n, .ref D9, .list (ldA b), b, rfl, R1.same sA, m1.same sA, act.1, hN3.dp h3, .lst (isA_ld b), po, few, fun H4 k4 m4 R4 => k H4 ((Same.ks (sL.trans sA)).trans k4) m4 R4⟩
      · rw [tx_back, hread] at e3
        cases e3
theorem sc_load : FnScope ["text", "lines", "road", "runs", "position", "line"] ["text"] (defScope s_load) := ⟨rfl, rfl, rfl, by decide +kernel, rfl, by decide +kernel, by decide +kernel⟩
theorem ok_load {C : Addr} {f : Addr} {fd : FuncData} (F : Fun K "load" "load" s_load f fd) (B : Blt mg) (C_new_road : Cal P w K mg base 3 "new_road" (sp_new_road C)) (C_read_line : Cal P w K mg base 10 "read_line" (sp_read_line K C)) {tk_MOST_RUNS : Tok} (G_MOST_RUNS : mg "MOST_RUNS" = some (Value.int 200 tk_MOST_RUNS)) : FnOk P w K mg base CX0 11 f fd ["text"] (sp_load K C) := by
  refine F.ok sc_load (fun vs H Q E h => ?_) (fun cdv A outer s H vs Q E hr h => ?_)
  · obtain ⟨p, M, q, as, rfl, _⟩ := h
    rfl
  · obtain ⟨p, M, q, as, rfl, mok, mem, tk, few, k⟩ := h
    have nd := sc_load.nd
    have big : 1000000 ≤ sizeLine := by decide +kernel
    have rng := primes_rng q mem
    have hq : q.natAbs ≤ 10 ^ 30 := Nat.le_trans (show q.natAbs ≤ 97 by omega) (by decide +kernel)
    have ok : ∀ a ∈ as, OkA a := fun a ha => tk.okA ha
    have tl := sv_len hq ok
    refine ⟨_, (pss_cons (ps_if (pt_not (pt_val (pe_callB call_isi (by rfl) B.isinstance (by decide +kernel) (pa_cons (pv 0) (pa_cons (pe_bltn (v := .ty "str") (u := .type "str") (by rfl) B.str (by decide +kernel) rfl) pa_nil)))))
      (pss_one ps_never)
      pss_nil)
    (pss_cons (ps_set (i := 1) nd rfl (.inl rfl) (pe_split (pv 0) pe_str))
    (pss_cons (ps_set (i := 2) nd rfl (.inl rfl) (pe_c C_new_road hr (by decide) (by rfl) (pa_cons (pe_ix ix_list (pv 1) pe_int (fun _ _ => rfl)) pa_nil)))
    (pss_cons (ps_set (i := 3) nd rfl (.inl rfl) pe_int)
    (pss_cons (ps_for PassesOwn.never rfl (pi_enumS (by rfl) B.enumerate (pa_cons (pe_slice sl_list (pv 1) (po_some pe_int) po_none) pa_nil) pe_int) (pg_tup rfl (pgs_cons (pg_name (i := 4) nd rfl (.inl rfl)) (pgs_cons (pg_name (i := 5) nd rfl (.inl rfl)) pgs_nil)))
      (pss_cons (ps_aug (i := 3) nd rfl (.inl rfl) (pe_ifExp (pt_val (pe_m1 PySem.F.slot_str_startswith PySem.F.type_str_startswith mt_startswith (pv 5) pe_str)) pe_int pe_int) ip_add)
    (pss_cons (ps_if (pt_cmpR op_gt (pv 3) (pe_glob (v := .int 200) rfl G_MOST_RUNS ⟨_, rfl⟩) (nomark _))
      (pss_one ps_never)
      pss_nil)
    (pss_one (ps_try_thru0 (pss_one (ps_expr (pe_c C_read_line hr (by decide) (by rfl) (pa_cons (pv 2) (pa_cons (pv 4) (pa_cons (pv 5) pa_nil)))))))))))
    (pss_one (ps_ret (pv 2)))))))), ?_⟩
    refine ⟨_, rfl, .str (svT q as), .ty "str", .type "str", .type "str", true, rfl, .ty _, .base (.str _), kit_ty (by decide +kernel), _, rfl, iteF ?_⟩
    refine ⟨_, rfl, ⟨_, rfl⟩, svT q as, "\n", rfl, rfl, by decide +kernel, by omega, fun L nL => ?_⟩
    rw [sv_split ok]
    obtain ⟨H1, eH1⟩ : ∃ X, X = upd H L (.lst ((prL q :: as.map lnA).map V.str)) := ⟨_, rfl⟩
    have sL : Same H H1 := by rw [eH1]; exact same_new nL
    have hL : H1 L = some (.lst ((prL q :: as.map lnA).map V.str)) := by rw [eH1]; exact upd_same
    rw [← eH1]
    clear eH1
    refine ⟨_, rfl, L, _, 0, _, rfl, rfl, SqL.of hL, at_head _ _, q, rfl, mem, fun r dx D T H2 s2 nr nD nT ne hr2 hD2 hT2 => ?_⟩
    have s02 := sL.trans s2
    have nr0 := none_before sL nr
    have nD0 := none_before sL nD
    have nT0 := none_before sL nT
    have hL2 := s2 _ _ hL
    refine ⟨_, rfl, 1, rfl, L, _, rfl, SqL.of hL2, fun N nN => ?_⟩
    rw [show cutV ((prL q :: as.map lnA).map V.str) (some 1) none = (as.map lnA).map V.str from cut1 _]
    obtain ⟨H3, eH3⟩ : ∃ X, X = upd H2 N (.lst ((as.map lnA).map V.str)) := ⟨_, rfl⟩
    have sN : Same H2 H3 := by rw [eH3]; exact same_new nN
    have hN : H3 N = some (.lst ((as.map lnA).map V.str)) := by rw [eH3]; exact upd_same
    rw [← eH3]
    clear eH3
    have s03 := s02.trans sN
    have m3 : MOk (MAdd M D T) p H3 := MAdd.mok mok s03 (sN _ _ hD2) (sN _ _ hT2)
    have R3 : RoadAt K C (MAdd M D T) H3 r D T q [] [] := MAdd.made mok nr0 ne (sN _ _ hr2) (sN _ _ hD2) (sN _ _ hT2)
    have lw : ((as.map lnA).map V.str).length = as.length := by rw [List.length_map, List.length_map]
    have DN : D ≠ N := fun z => by
      rw [z, nN] at hD2
      cases hD2
    have TN : T ≠ N := fun z => by
      rw [z, nN] at hT2
      cases hT2
    refine ⟨N, _, rfl, rfl, SqL.of hN, for_it (walk_enumS (K := K) (a := N) (us := (as.map lnA).map V.str)) (fun j σ G => ∃ (y4 y5 : Option V) (z : Int), σ = [some (.str (svT q as)), some (.ref L), some (.ref r), some (.int z), y4, y5] ∧ 0 ≤ z ∧ z ≤ j ∧ Same H G ∧ G N = some (.lst ((as.map lnA).map V.str)) ∧ MOk (MAdd M D T) p G ∧ RoadAt K C (MAdd M D T) G r D T q ((as.take j).map lsA) []) ⟨none, none, 0, rfl, by decide, by decide, s03, hN, m3, by rw [List.take_zero]; exact R3⟩ (fun j σ G _ ⟨_, _, _, _, _, _, _, hG, _⟩ => SqL.of hG) ?_ ?_⟩
    · rintro j x σ G G' hj ⟨y4, y5, z, rfl, z0, zj, sG, hNG, mG, RG⟩ ⟨t, v1, v2, rfl, nt, rfl, e1, e2⟩
      cases e1
      rw [lw] at hj
      have haj : as[j]? = some as[j] := List.getElem?_eq_getElem hj
      obtain ⟨a, ha⟩ : ∃ a, as[j]? = some a := ⟨_, haj⟩
      obtain rfl : V.str (lnA a) = v2 := by
        have e3 : ((as.map lnA).map V.str)[j]? = some v2 := e2
        rw [List.map_map, List.getElem?_map, ha] at e3
        exact Option.some.inj e3
      have st := same_new nt (o := HO.tup [V.int ((j + 1 : Nat) : Int), V.str (lnA a)])
      have sG2 := sG.trans st
      have act : ActOk ((as.take j).map lsA) a := (tk j a ha).ls
      refine ⟨t, _, rfl, SqT.of upd_same, rfl, _, _, rfl, _, _, rfl, rfl, ?_⟩
      have go : ∀ (w : Int), 0 ≤ w → w ≤ ((j + 1 : Nat) : Int) → w ≤ 200 ∧ ∀ G2, Kst (Own2 D T) (upd G t (.tup [V.int ((j + 1 : Nat) : Int), V.str (lnA a)])) G2 → MOk (MAdd M D T) p G2 → RoadAt K C (MAdd M D T) G2 r D T q ((as.take j).map lsA ++ [lsA a]) [] → Same H G2 ∧ G2 N = some (.lst ((as.map lnA).map V.str)) ∧ RoadAt K C (MAdd M D T) G2 r D T q ((as.take (j + 1)).map lsA) [] := fun w w0 w1 => by
        refine ⟨by omega, fun G2 k2 m2 R2 => ⟨Same.own sG2 k2 nD0 nT0, k2 _ _ (fun z => z.elim (fun y => DN y.symm) fun y => TN y.symm) (st _ _ hNG), ?_⟩⟩
        rw [take_snoc ha, List.map_append]
        exact R2
      have fewj : ((as.take j).map lsA).length < 1000 := by
        rw [List.length_map, List.length_take]
        omega
      refine ⟨_, rfl, _, rfl, ⟨_, rfl⟩, _, _, rfl, rfl, _, rfl, ?_⟩
      generalize Txt.startswith (lnA a) "run " = c
      cases c
      · refine iteF ⟨_, _, rfl, rfl, ?_⟩
        obtain ⟨w2, fin⟩ := go (z + 0) (by omega) (by omega)
        refine ⟨_, rfl, _, _, rfl, rfl, _, rfl, ?_⟩
        rw [decide_eq_false (show ¬ (200 : Int) < z + 0 by omega)]
        refine iteF ⟨_, rfl, _, rfl, _, rfl, r, D, T, p, q, _, (as.take j).map lsA, [], a, MAdd M D T, rfl, RG.same st, mG.same st, act, ok a (List.mem_of_getElem? ha), fewj, fun G2 k2 m2 R2 => ?_⟩
        obtain ⟨f1, f2, f3⟩ := fin G2 k2 m2 R2
        exact ⟨_, _, z + 0, rfl, by omega, by omega, f1, f2, m2, f3⟩
      · refine iteT ⟨_, _, rfl, rfl, ?_⟩
        obtain ⟨w2, fin⟩ := go (z + 1) (by omega) (by omega)
        refine ⟨_, rfl, _, _, rfl, rfl, _, rfl, ?_⟩
        rw [decide_eq_false (show ¬ (200 : Int) < z + 1 by omega)]
        refine iteF ⟨_, rfl, _, rfl, _, rfl, r, D, T, p, q, _, (as.take j).map lsA, [], a, MAdd M D T, rfl, RG.same st, mG.same st, act, ok a (List.mem_of_getElem? ha), fewj, fun G2 k2 m2 R2 => ?_⟩
        obtain ⟨f1, f2, f3⟩ := fin G2 k2 m2 R2
        exact ⟨_, _, z + 1, rfl, by omega, by omega, f1, f2, m2, f3⟩
    · rintro σ G ⟨y4, y5, z, rfl, z0, zj, sG, hNG, mG, RG⟩
      rw [lw, List.take_length] at RG
      exact ⟨_, rfl, k r D T G sG nr0 nD0 nT0 mG RG⟩
theorem sc__law_pen : FnScope ["_law_script"] ["_law_script"] (defScope s__law_pen) := ⟨rfl, rfl, rfl, by decide +kernel, rfl, by decide +kernel, by decide +kernel⟩
theorem ok__law_pen {f : Addr} {fd : FuncData} (F : Fun K "_law_pen" "_law_pen" s__law_pen f fd) (B : Blt mg) : FnOk P w K mg base CX0 1 f fd ["_law_script"] (sp__law_pen K) := by
  refine F.ok sc__law_pen (fun vs H Q E h => ?_) (fun cdv A outer s H vs Q E hr h => ?_)
  · obtain ⟨a, ns, rfl, _⟩ := h
    rfl
  · obtain ⟨a, ns, rfl, hS, k⟩ := h
    have nd := sc__law_pen.nd
    refine ⟨_, (pss_one (ps_ret (pe_disp (pps_cons pe_str (pe_callTy call_list_of (by rfl) B.list (by decide +kernel) (pa_cons (pe_slice sl_list (pv 0) po_none (po_some pe_int)) pa_nil)) (pps_cons pe_str pe_int (pps_cons pe_str pe_int pps_nil))) (by rfl) (by rfl) (fun z => by cases z) (by decide)))), ?_⟩
    intro p np
    have s1 : Same H (upd H p (.dK [])) := same_new np
    refine ⟨_, rfl, 63, rfl, a, _, rfl, s1.seq hS, fun q nq => ?_⟩
    have nqp : p ≠ q := ne_of_none upd_same nq
    refine ⟨q, _, rfl, .inl (SqL.of upd_same), fun c nc => ?_⟩
    have npc : p ≠ c := ne_of_none (show upd (upd H p (.dK [])) q _ p = some (.dK []) by rw [upd_ne nqp, upd_same]) nc
    have s2 : Same H (upd (upd H p (.dK [])) q (.lst (cutV (ns.map V.int) none (some 63)))) := s1.trans (same_new nq)
    refine ⟨?_, penKv c 0 0, rfl, by show 3 ≤ 15; decide, ?_⟩
    · rw [upd_ne npc, upd_ne nqp, upd_same]
    · rw [pen_merge]
      obtain ⟨ms, hms⟩ : ∃ ms : List Int, cutV (ns.map V.int) none (some 63) = ms.map V.int := by
        unfold cutV
        rw [← List.map_drop, ← List.map_take]
        exact ⟨_, rfl⟩
      refine k p c _ np (same_mut (s2.trans (same_new nc)) np) ⟨ms, 0, 0, upd_same, ?_, by omega, by omega⟩
      rw [upd_ne npc.symm, upd_same, hms]
theorem sc__law_draw : FnScope ["_law_pen_here", "_law_many", "_law_digit", "_law_used", "_law_cell", "_law_blend"] ["_law_pen_here", "_law_many"] (defScope s__law_draw) := ⟨rfl, rfl, rfl, by decide +kernel, rfl, by decide +kernel, by decide +kernel⟩
theorem ints_shaped (ns : List Int) : SeqAt.shaped (.list (ns.map PyData.int)) = true := by
  have : PyData.canLayAll0 (ns.map PyData.int) = true ∧ PyData.depthAll (ns.map PyData.int) = 0 := by
    induction ns with
    | nil => exact ⟨rfl, rfl⟩
    | cons n r ih =>
      refine ⟨?_, ?_⟩
      · show (true && PyData.canLayAll0 (r.map PyData.int)) = true
        rw [ih.1]
        rfl
      · show max 0 (PyData.depthAll (r.map PyData.int)) = 0
        rw [ih.2]
        rfl
  show (PyData.canLayAll0 (ns.map PyData.int) && decide (PyData.depthAll (ns.map PyData.int) + 1 ≤ 64)) = true
  rw [this.1, this.2]
  rfl
theorem ints_dpAll {H : Hp} : ∀ ns : List Int, DpAll K H (ns.map V.int) (ns.map PyData.int)
  | [] => .nil
  | n :: r => .cons (.int n) (ints_dpAll r)
theorem dg_left {H : Hp} {p c : Addr} {u l : Int} (h : H p = some (.dK (penKv c u l))) : DGet H p (.str "left") (some (.int l)) := by
  have := DGet.k (k := (Sum.inr ("left" : Str) : Key)) h
  rw [pen_left] at this
  exact this
theorem dg_used {H : Hp} {p c : Addr} {u l : Int} (h : H p = some (.dK (penKv c u l))) : DGet H p (.str "used") (some (.int u)) := by
  have := DGet.k (k := (Sum.inr ("used" : Str) : Key)) h
  rw [pen_used] at this
  exact this
theorem dg_cells {H : Hp} {p c : Addr} {u l : Int} (h : H p = some (.dK (penKv c u l))) : DGet H p (.str "cells") (some (.ref c)) := by
  have := DGet.k (k := (Sum.inr ("cells" : Str) : Key)) h
  rw [pen_cells] at this
  exact this
theorem dp_left {H : Hp} {p c : Addr} {u l : Int} (x : Int) (h : H p = some (.dK (penKv c u l))) : DPut H p (.str "left") (.int x) (upd H p (.dK (penKv c u x))) := by
  have := DPut.k (k := (Sum.inr ("left" : Str) : Key)) (v := .int x) h (sl_lt (show 3 ≤ 1000000 by decide))
  rw [pen_setL] at this
  exact this
theorem dp_used {H : Hp} {p c : Addr} {u l : Int} (x : Int) (h : H p = some (.dK (penKv c u l))) : DPut H p (.str "used") (.int x) (upd H p (.dK (penKv c x l))) := by
  have := DPut.k (k := (Sum.inr ("used" : Str) : Key)) (v := .int x) h (sl_lt (show 3 ≤ 1000000 by decide))
  rw [pen_setU] at this
  exact this
theorem atI_mod {ns : List Int} (u : Int) (h : 0 < ns.length) : ∃ z, atI (ns.map V.int) (u % ((ns.map V.int).length : Int)) = some (.int z) := by
  rw [List.length_map]
  have h1 := Int.emod_nonneg u (show (ns.length : Int) ≠ 0 by omega)
  have h2 := Int.emod_lt_of_pos u (show (0 : Int) < (ns.length : Int) by omega)
  obtain ⟨j, hj⟩ : ∃ j : Nat, u % (ns.length : Int) = (j : Int) := ⟨(u % (ns.length : Int)).toNat, by omega⟩
  rw [hj]
  have hlt : j < ns.length := by omega
  refine ⟨ns[j], atI_nat ?_⟩
  rw [List.getElem?_map, List.getElem?_eq_getElem hlt]
  rfl
theorem cm_197 (x j : Int) : CMul (x % 4294967197) j := .inl ⟨by have := Int.emod_nonneg x (show (4294967197 : Int) ≠ 0 by decide); omega, by have := Int.emod_lt_of_pos x (show (0 : Int) < 4294967197 by decide); omega⟩
theorem cm_189 (x j : Int) : CMul (x % 4294967189) j := .inl ⟨by have := Int.emod_nonneg x (show (4294967189 : Int) ≠ 0 by decide); omega, by have := Int.emod_lt_of_pos x (show (0 : Int) < 4294967189 by decide); omega⟩
theorem ok__law_draw {f : Addr} {fd : FuncData} (F : Fun K "_law_draw" "_law_draw" s__law_draw f fd) (B : Blt mg) : FnOk P w K mg base CX0 1 f fd ["_law_pen_here", "_law_many"] sp__law_draw := by
  refine F.ok sc__law_draw (fun vs H Q E h => ?_) (fun cdv A outer s H vs Q E hr h => ?_)
  · obtain ⟨p, c, many, n, rfl, _⟩ := h
    rfl
  · obtain ⟨p, c, many, n, rfl, hm, hm2, ⟨ns, u, l, h1, h2, hu0, hun⟩, hn, k⟩ := h
    have hu := hu_of hr
    have hu2 := hr.units
    have nd := sc__law_draw.nd
    have npc : p ≠ c := ne_of h1 h2 (by intro z; cases z)
    refine ⟨_, (pss_cons (ps_if (pt_cmpR op_gt (pe_dget hu (pv 0) pe_str (fun _ _ => rfl)) pe_int (nomark _))
      (pss_cons (ps_set (i := 2) nd rfl (.inl rfl) (pe_op op_mod (pe_dget hu (pv 0) pe_str (fun _ _ => rfl)) (pv 1)))
    (pss_cons (ps_dput hu (pv 0) pe_str (pe_op op_fdivW (pe_dget hu (pv 0) pe_str (fun _ _ => rfl)) (pv 1)) rfl)
    (pss_one (ps_ret (pv 2)))))
      pss_nil)
    (pss_cons (ps_set (i := 3) nd rfl (.inl rfl) (pe_dget hu (pv 0) pe_str (fun _ _ => rfl)))
    (pss_cons (ps_dput hu (pv 0) pe_str (pe_op op_add (pv 3) pe_int) rfl)
    (pss_cons (ps_set (i := 4) nd rfl (.inl rfl) (pe_op op_add (pe_op op_mul pe_int (pv 3)) pe_int))
    (pss_cons (ps_if (pt_cmpR (op_neD hu2) (pe_dget hu (pv 0) pe_str (fun _ _ => rfl)) (pe_lst pa_nil) (nomark _))
      (pss_one (ps_set (i := 4) nd rfl (.inl rfl) (pe_ix ix_list (pe_dget hu (pv 0) pe_str (fun _ _ => rfl)) (pe_op op_mod (pv 3) (pe_callB call_len_seq (by rfl) B.len (by decide +kernel) (pa_cons (pe_dget hu (pv 0) pe_str (fun _ _ => rfl)) pa_nil))) (fun _ _ => rfl))))
      pss_nil)
    (pss_cons (ps_if (PW.pt (pw_and (pt_cmpR op_lt (pv 3) (pe_callB call_len_seq (by rfl) B.len (by decide +kernel) (pa_cons (pe_dget hu (pv 0) pe_str (fun _ _ => rfl)) pa_nil)) (nomark _)) (pw_and1 (pt_cmpR op_ge (pe_callB call_abs (by rfl) B.abs (by decide +kernel) (pa_cons (pv 4) pa_nil)) (pe_op op_pow pe_int pe_int) (nomark _)))))
      (pss_cons (ps_dput hu (pv 0) pe_str (pe_op op_fdivW (pe_op op_sub (pe_callB call_abs (by rfl) B.abs (by decide +kernel) (pa_cons (pv 4) pa_nil)) (pe_op op_pow pe_int pe_int)) (pv 1)) rfl)
    (pss_one (ps_ret (pe_op op_mod (pe_op op_sub (pe_callB call_abs (by rfl) B.abs (by decide +kernel) (pa_cons (pv 4) pa_nil)) (pe_op op_pow pe_int pe_int)) (pv 1)))))
      pss_nil)
    (pss_cons (ps_set (i := 5) nd rfl (.inl rfl) (pe_op op_add (pe_op op_mul (pe_op op_mod (pv 4) pe_int) pe_int) (pe_op op_mul (pe_op op_mul pe_int (pv 3)) (pv 3))))
    (pss_cons (ps_set (i := 5) nd rfl (.inl rfl) (pe_op op_mod (pe_op op_add (pe_op op_add (pv 5) (pe_op op_mul pe_int (pv 3))) pe_int) pe_int))
    (pss_cons (ps_set (i := 5) nd rfl (.inl rfl) (pe_op op_mod (pe_op op_add (pe_op op_add (pe_op op_add (pe_op op_mul (pv 5) (pv 5)) (pe_op op_mul pe_int (pv 5))) (pe_op op_mul pe_int (pv 3))) pe_int) pe_int))
    (pss_one (ps_ret (pe_op op_mod (pe_op op_fdiv (pe_op op_mod (pe_op op_mul (pv 5) (pe_op op_add (pv 5) pe_int)) pe_int) pe_int) (pv 1))))))))))))), ?_⟩
    have wd : ∀ i : Int, CDivW i many := fun i => wide_div hm hm2 (by decide) (by decide)
    have rng : ∀ i : Int, 0 ≤ i % many ∧ i % many < many := fun i => ⟨Int.emod_nonneg i (by omega), Int.emod_lt_of_pos i hm⟩
    refine ⟨_, rfl, p, _, rfl, dg_left h1, _, _, rfl, rfl, _, rfl, ?_⟩
    refine ite2 (fun _ => ?_) (fun _ => ?_)
    · refine ⟨_, rfl, p, _, rfl, dg_left h1, _, rfl, l, many, rfl, rfl, hm, ?_⟩
      refine ⟨_, rfl, p, _, rfl, dg_left h1, _, rfl, l, many, rfl, rfl, wd _, _, rfl, p, _, rfl, dp_left _ h1, _, rfl, ?_⟩
      exact k _ _ (rng l).1 (rng l).2 (Kp.refl p H).upd ⟨ns, u, _, upd_same, by rw [upd_ne npc.symm]; exact h2, hu0, by omega⟩
    · have g1 : upd H p (.dK (penKv c (u + 1) l)) p = some (.dK (penKv c (u + 1) l)) := upd_same
      have g2 : upd H p (.dK (penKv c (u + 1) l)) c = some (.lst (ns.map V.int)) := by
        rw [upd_ne npc.symm]
        exact h2
      refine ⟨_, rfl, p, _, rfl, dg_used h1, _, rfl, u, 1, rfl, rfl, _, rfl, p, _, rfl, dp_used (u + 1) h1, ?_⟩
      refine ⟨_, rfl, 29, u, rfl, rfl, .inl ⟨by decide, by decide⟩, _, 11, rfl, rfl, ?_⟩
      refine ⟨_, rfl, p, _, rfl, dg_cells g1, Nat.zero_le _, fun q nq => ?_⟩
      have e1 : upd (upd H p (.dK (penKv c (u + 1) l))) q (.lst []) p = some (.dK (penKv c (u + 1) l)) := by
        rw [upd_ne (ne_of_none g1 nq)]
        exact g1
      have e2 : upd (upd H p (.dK (penKv c (u + 1) l))) q (.lst []) c = some (.lst (ns.map V.int)) := by
        rw [upd_ne (ne_of_none g2 nq)]
        exact g2
      have kq : Kp p H (upd (upd H p (.dK (penKv c (u + 1) l))) q (.lst [])) := (Kp.refl p H).upd.trans (Same.kp (same_new nq))
      have e3 : upd (upd H p (.dK (penKv c (u + 1) l))) q (.lst []) q = some (.lst []) := upd_same
      generalize upd (upd H p (.dK (penKv c (u + 1) l))) q (.lst []) = H1 at e1 e2 e3 kq ⊢
      have hpos : (!PyData.eqv (.list (ns.map PyData.int)) (.list [])) = true → 0 < ns.length := by
        cases ns with
        | nil => exact fun z => absurd z (by decide)
        | cons _ _ => exact fun _ => Nat.succ_pos _
      refine ⟨.list (ns.map PyData.int), .list [], .lst (SqL.of e2) (ints_dpAll ns), .lst (SqL.of e3) .nil, ints_shaped ns, ints_shaped [], _, rfl, ?_⟩
      refine ite2 (fun z => ?_) (fun _ => ?_)
      · obtain ⟨v, hv⟩ := atI_mod u (hpos z)
        refine ⟨_, rfl, p, _, rfl, dg_cells e1, _, rfl, _, rfl, p, _, rfl, dg_cells e1, c, _, rfl, .inl (SqL.of e2), u, _, rfl, rfl, (by rw [List.length_map]; have := hpos z; omega), c, _, _, _, rfl, rfl, SqL.of e2, hv, ?_⟩
        generalize v = cell
        refine ⟨_, rfl, _, rfl, p, _, rfl, dg_cells e1, c, _, rfl, .inl (SqL.of e2), u, _, rfl, rfl, _, rfl, ?_⟩
        refine ite2 (fun _ => ?_) (fun _ => ?_)
        · refine ⟨_, rfl, cell, rfl, 10, 18, rfl, rfl, ⟨by decide, by decide, by decide⟩, _, _, rfl, rfl, _, rfl, ?_⟩
          refine ite2 (fun _ => ?_) (fun _ => ?_)
          · refine ⟨_, rfl, cell, rfl, 10, 18, rfl, rfl, ⟨by decide, by decide, by decide⟩, _, _, rfl, rfl, _, rfl, _, many, rfl, rfl, wd _, _, rfl, p, _, rfl, dp_left _ e1, ?_⟩
            refine ⟨_, rfl, cell, rfl, 10, 18, rfl, rfl, ⟨by decide, by decide, by decide⟩, _, _, rfl, rfl, _, rfl, _, many, rfl, rfl, hm, ?_⟩
            exact k _ _ (rng _).1 (rng _).2 kq.upd ⟨ns, u + 1, _, upd_same, by rw [upd_ne npc.symm]; exact e2, by omega, by omega⟩
          · refine ⟨_, rfl, cell, 4294967231, rfl, rfl, (show (0 : Int) < 4294967231 by decide), _, 1664525, rfl, rfl, .inr ⟨by decide, by decide⟩, _, rfl, 24593, u, rfl, rfl, .inl ⟨by decide, by decide⟩, _, rfl, 24593 * u, u, rfl, rfl, .inr ⟨by omega, by omega⟩, _, _, rfl, rfl, ?_⟩
            refine ⟨_, rfl, _, rfl, 196613, u, rfl, rfl, .inl ⟨by decide, by decide⟩, _, _, rfl, rfl, _, 19, rfl, rfl, _, _, rfl, rfl, (show (0 : Int) < 4294967197 by decide), ?_⟩
            refine ⟨_, rfl, _, rfl, _, _, rfl, rfl, cm_197 _ _, _, rfl, 12582917, _, rfl, rfl, .inl ⟨by decide, by decide⟩, _, _, rfl, rfl, _, rfl, 7, u, rfl, rfl, .inl ⟨by decide, by decide⟩, _, _, rfl, rfl, _, 3, rfl, rfl, _, _, rfl, rfl, (show (0 : Int) < 4294967189 by decide), ?_⟩
            refine ⟨_, rfl, _, rfl, _, 25165843, rfl, rfl, _, _, rfl, rfl, cm_189 _ _, _, _, rfl, rfl, (show (0 : Int) < 4294967291 by decide), _, 64, rfl, rfl, ⟨by decide, by decide⟩, _, rfl, _, many, rfl, rfl, hm, ?_⟩
            exact k _ _ (rng _).1 (rng _).2 kq ⟨ns, u + 1, _, e1, e2, by omega, by omega⟩
        · refine iteF ?_
          refine ⟨_, rfl, cell, 4294967231, rfl, rfl, (show (0 : Int) < 4294967231 by decide), _, 1664525, rfl, rfl, .inr ⟨by decide, by decide⟩, _, rfl, 24593, u, rfl, rfl, .inl ⟨by decide, by decide⟩, _, rfl, 24593 * u, u, rfl, rfl, .inr ⟨by omega, by omega⟩, _, _, rfl, rfl, ?_⟩
          refine ⟨_, rfl, _, rfl, 196613, u, rfl, rfl, .inl ⟨by decide, by decide⟩, _, _, rfl, rfl, _, 19, rfl, rfl, _, _, rfl, rfl, (show (0 : Int) < 4294967197 by decide), ?_⟩
          refine ⟨_, rfl, _, rfl, _, _, rfl, rfl, cm_197 _ _, _, rfl, 12582917, _, rfl, rfl, .inl ⟨by decide, by decide⟩, _, _, rfl, rfl, _, rfl, 7, u, rfl, rfl, .inl ⟨by decide, by decide⟩, _, _, rfl, rfl, _, 3, rfl, rfl, _, _, rfl, rfl, (show (0 : Int) < 4294967189 by decide), ?_⟩
          refine ⟨_, rfl, _, rfl, _, 25165843, rfl, rfl, _, _, rfl, rfl, cm_189 _ _, _, _, rfl, rfl, (show (0 : Int) < 4294967291 by decide), _, 64, rfl, rfl, ⟨by decide, by decide⟩, _, rfl, _, many, rfl, rfl, hm, ?_⟩
          exact k _ _ (rng _).1 (rng _).2 kq ⟨ns, u + 1, _, e1, e2, by omega, by omega⟩
      · refine ⟨_, rfl, _, rfl, p, _, rfl, dg_cells e1, c, _, rfl, .inl (SqL.of e2), u, _, rfl, rfl, _, rfl, ?_⟩
        refine ite2 (fun _ => ?_) (fun _ => ?_)
        · refine ⟨_, rfl, 29 * u + 11, rfl, 10, 18, rfl, rfl, ⟨by decide, by decide, by decide⟩, _, _, rfl, rfl, _, rfl, ?_⟩
          refine ite2 (fun _ => ?_) (fun _ => ?_)
          · refine ⟨_, rfl, 29 * u + 11, rfl, 10, 18, rfl, rfl, ⟨by decide, by decide, by decide⟩, _, _, rfl, rfl, _, rfl, _, many, rfl, rfl, wd _, _, rfl, p, _, rfl, dp_left _ e1, ?_⟩
            refine ⟨_, rfl, 29 * u + 11, rfl, 10, 18, rfl, rfl, ⟨by decide, by decide, by decide⟩, _, _, rfl, rfl, _, rfl, _, many, rfl, rfl, hm, ?_⟩
            exact k _ _ (rng _).1 (rng _).2 kq.upd ⟨ns, u + 1, _, upd_same, by rw [upd_ne npc.symm]; exact e2, by omega, by omega⟩
          · refine ⟨_, rfl, 29 * u + 11, 4294967231, rfl, rfl, (show (0 : Int) < 4294967231 by decide), _, 1664525, rfl, rfl, .inr ⟨by decide, by decide⟩, _, rfl, 24593, u, rfl, rfl, .inl ⟨by decide, by decide⟩, _, rfl, 24593 * u, u, rfl, rfl, .inr ⟨by omega, by omega⟩, _, _, rfl, rfl, ?_⟩
            refine ⟨_, rfl, _, rfl, 196613, u, rfl, rfl, .inl ⟨by decide, by decide⟩, _, _, rfl, rfl, _, 19, rfl, rfl, _, _, rfl, rfl, (show (0 : Int) < 4294967197 by decide), ?_⟩
            refine ⟨_, rfl, _, rfl, _, _, rfl, rfl, cm_197 _ _, _, rfl, 12582917, _, rfl, rfl, .inl ⟨by decide, by decide⟩, _, _, rfl, rfl, _, rfl, 7, u, rfl, rfl, .inl ⟨by decide, by decide⟩, _, _, rfl, rfl, _, 3, rfl, rfl, _, _, rfl, rfl, (show (0 : Int) < 4294967189 by decide), ?_⟩
            refine ⟨_, rfl, _, rfl, _, 25165843, rfl, rfl, _, _, rfl, rfl, cm_189 _ _, _, _, rfl, rfl, (show (0 : Int) < 4294967291 by decide), _, 64, rfl, rfl, ⟨by decide, by decide⟩, _, rfl, _, many, rfl, rfl, hm, ?_⟩
            exact k _ _ (rng _).1 (rng _).2 kq ⟨ns, u + 1, _, e1, e2, by omega, by omega⟩
        · refine iteF ?_
          refine ⟨_, rfl, 29 * u + 11, 4294967231, rfl, rfl, (show (0 : Int) < 4294967231 by decide), _, 1664525, rfl, rfl, .inr ⟨by decide, by decide⟩, _, rfl, 24593, u, rfl, rfl, .inl ⟨by decide, by decide⟩, _, rfl, 24593 * u, u, rfl, rfl, .inr ⟨by omega, by omega⟩, _, _, rfl, rfl, ?_⟩
          refine ⟨_, rfl, _, rfl, 196613, u, rfl, rfl, .inl ⟨by decide, by decide⟩, _, _, rfl, rfl, _, 19, rfl, rfl, _, _, rfl, rfl, (show (0 : Int) < 4294967197 by decide), ?_⟩
          refine ⟨_, rfl, _, rfl, _, _, rfl, rfl, cm_197 _ _, _, rfl, 12582917, _, rfl, rfl, .inl ⟨by decide, by decide⟩, _, _, rfl, rfl, _, rfl, 7, u, rfl, rfl, .inl ⟨by decide, by decide⟩, _, _, rfl, rfl, _, 3, rfl, rfl, _, _, rfl, rfl, (show (0 : Int) < 4294967189 by decide), ?_⟩
          refine ⟨_, rfl, _, rfl, _, 25165843, rfl, rfl, _, _, rfl, rfl, cm_189 _ _, _, _, rfl, rfl, (show (0 : Int) < 4294967291 by decide), _, 64, rfl, rfl, ⟨by decide, by decide⟩, _, rfl, _, many, rfl, rfl, hm, ?_⟩
          exact k _ _ (rng _).1 (rng _).2 kq ⟨ns, u + 1, _, e1, e2, by omega, by omega⟩
theorem sc__law_pick : FnScope ["_law_pen_here", "_law_options"] ["_law_pen_here", "_law_options"] (defScope s__law_pick) := ⟨rfl, rfl, rfl, by decide +kernel, rfl, by decide +kernel, by decide +kernel⟩
theorem ok__law_pick {f : Addr} {fd : FuncData} (F : Fun K "_law_pick" "_law_pick" s__law_pick f fd) (B : Blt mg) (C__law_draw : Cal P w K mg base 1 "_law_draw" sp__law_draw) : FnOk P w K mg base CX0 2 f fd ["_law_pen_here", "_law_options"] sp__law_pick := by
  refine F.ok sc__law_pick (fun vs H Q E h => ?_) (fun cdv A outer s H vs Q E hr h => ?_)
  · obtain ⟨p, c, o, n, xs, rfl, _⟩ := h
    rfl
  · obtain ⟨p, c, o, n, xs, rfl, pen, hn, ho, hx, hx2, k⟩ := h
    have nd := sc__law_pick.nd
    refine ⟨_, (pss_one (ps_ret (pe_ix ix_list (pv 1) (pe_c C__law_draw hr (by decide) (by rfl) (pa_cons (pv 0) (pa_cons (pe_callB call_len_seq (by rfl) B.len (by decide +kernel) (pa_cons (pv 1) pa_nil)) pa_nil))) (fun _ _ => rfl)))), ?_⟩
    have nop : o ≠ p := pen.dict.elim fun _ e => ne_of ho e (by intro z; cases z)
    refine ⟨_, rfl, _, rfl, _, rfl, o, xs, rfl, .inl (SqL.of ho), p, c, (xs.length : Int), n, rfl, by omega, ?_, pen, hn, fun r H1 h0 h9 kp pen1 => ?_⟩
    · exact Nat.lt_of_le_of_lt (show ((xs.length : Int)).natAbs ≤ 100000 by omega) (by decide)
    · obtain ⟨j, rfl⟩ : ∃ j : Nat, r = (j : Int) := ⟨r.toNat, by omega⟩
      have hj : j < xs.length := by omega
      refine ⟨o, xs, (j : Int), xs[j], rfl, rfl, SqL.of (kp _ _ nop ho), atI_nat (List.getElem?_eq_getElem hj), ?_⟩
      exact k _ _ (List.getElem_mem hj) kp pen1
theorem sc__law_prime : FnScope ["_law_pen_here", "_law_found", "_law_larger"] ["_law_pen_here"] (defScope s__law_prime) := ⟨rfl, rfl, rfl, by decide +kernel, rfl, by decide +kernel, by decide +kernel⟩
theorem pick_p1 : ∀ q ∈ ([2, 2, 3, 3, 5, 7, 2, 3, 5, 11, 13, 97] : List Int), q ∈ primes := by decide
theorem pick_p2 : ∀ q ∈ ([13, 17, 19, 23, 29, 31, 37, 41, 43, 47, 53, 59, 61, 67, 71, 73, 79, 83, 89] : List Int), q ∈ primes := by decide
theorem ok__law_prime {f : Addr} {fd : FuncData} (F : Fun K "_law_prime" "_law_prime" s__law_prime f fd) (B : Blt mg) (C__law_pick : Cal P w K mg base 2 "_law_pick" sp__law_pick) : FnOk P w K mg base CX0 3 f fd ["_law_pen_here"] sp__law_prime := by
  refine F.ok sc__law_prime (fun vs H Q E h => ?_) (fun cdv A outer s H vs Q E hr h => ?_)
  · obtain ⟨p, c, n, rfl, _⟩ := h
    rfl
  · obtain ⟨p, c, n, rfl, pen, hn, k⟩ := h
    have nd := sc__law_prime.nd
    refine ⟨_, (pss_cons (ps_set (i := 1) nd rfl (.inl rfl) (pe_c C__law_pick hr (by decide) (by rfl) (pa_cons (pv 0) (pa_cons (pe_lst (pa_cons pe_int (pa_cons pe_int (pa_cons pe_int (pa_cons pe_int (pa_cons pe_int (pa_cons pe_int (pa_cons pe_int (pa_cons pe_int (pa_cons pe_int (pa_cons pe_int (pa_cons pe_int (pa_cons pe_int pa_nil))))))))))))) pa_nil))))
    (pss_cons (ps_set (i := 2) nd rfl (.inl rfl) (pe_lst (pa_cons pe_int (pa_cons pe_int (pa_cons pe_int (pa_cons pe_int (pa_cons pe_int (pa_cons pe_int (pa_cons pe_int (pa_cons pe_int (pa_cons pe_int (pa_cons pe_int (pa_cons pe_int (pa_cons pe_int (pa_cons pe_int (pa_cons pe_int (pa_cons pe_int (pa_cons pe_int (pa_cons pe_int (pa_cons pe_int (pa_cons pe_int pa_nil)))))))))))))))))))))
    (pss_one (ps_ret (pe_ifExp (pt_cmpR op_eq (pv 1) pe_int (nomark _)) (pe_c C__law_pick hr (by decide) (by rfl) (pa_cons (pv 0) (pa_cons (pv 2) pa_nil))) (pv 1)))))), ?_⟩
    refine ⟨_, rfl, sl_of (show 12 ≤ 1000000 by decide), fun o no => ?_⟩
    refine ⟨p, c, o, n, ([2, 2, 3, 3, 5, 7, 2, 3, 5, 11, 13, 97] : List Int).map V.int, rfl, pen.same (same_new no), by omega, upd_same, by decide, by decide, fun v H1 hv kp pen1 => ?_⟩
    obtain ⟨q, hq, rfl⟩ := List.mem_map.mp hv
    refine ⟨sl_of (show 19 ≤ 1000000 by decide), fun o2 no2 => ?_⟩
    have kp2 : Kp p H (upd H1 o2 (.lst (([13, 17, 19, 23, 29, 31, 37, 41, 43, 47, 53, 59, 61, 67, 71, 73, 79, 83, 89] : List Int).map V.int))) := (Same.kp (same_new no)).trans (kp.trans (Same.kp (same_new no2)))
    refine ⟨_, rfl, rfl, _, rfl, ?_⟩
    refine ite2 (fun _ => ?_) (fun _ => ?_)
    · refine ⟨_, rfl, _, rfl, p, c, o2, n + 1, ([13, 17, 19, 23, 29, 31, 37, 41, 43, 47, 53, 59, 61, 67, 71, 73, 79, 83, 89] : List Int).map V.int, rfl, pen1.same (same_new no2), by omega, upd_same, by decide, by decide, fun v H2 hv2 kp3 pen2 => ?_⟩
      obtain ⟨q2, hq2, rfl⟩ := List.mem_map.mp hv2
      exact k _ _ (pick_p2 _ hq2) (kp2.trans kp3) pen2
    · exact ⟨_, rfl, k _ _ (pick_p1 _ hq) kp2 ((pen1.same (same_new no2)).mono (by omega))⟩
theorem sc__law_integer : FnScope ["_law_pen_here", "_law_most"] ["_law_pen_here", "_law_most"] (defScope s__law_integer) := ⟨rfl, rfl, rfl, by decide +kernel, rfl, by decide +kernel, by decide +kernel⟩
theorem ten90 {m : Int} (h0 : 0 ≤ m) (h : m.natAbs < 10 ^ 90) : (2 * m + 1).natAbs < 2 ^ 400 := by
  have e : (2 * m + 1).natAbs = 2 * m.natAbs + 1 := by omega
  have h2 : 2 * 10 ^ 90 + 1 < 2 ^ 400 := by decide +kernel
  rw [e]
  omega
theorem ok__law_integer {f : Addr} {fd : FuncData} (F : Fun K "_law_integer" "_law_integer" s__law_integer f fd) (B : Blt mg) (C__law_draw : Cal P w K mg base 1 "_law_draw" sp__law_draw) : FnOk P w K mg base CX0 2 f fd ["_law_pen_here", "_law_most"] sp__law_integer := by
  refine F.ok sc__law_integer (fun vs H Q E h => ?_) (fun cdv A outer s H vs Q E hr h => ?_)
  · obtain ⟨p, c, m, n, rfl, _⟩ := h
    rfl
  · obtain ⟨p, c, m, n, rfl, hm, hm2, pen, hn, k⟩ := h
    have nd := sc__law_integer.nd
    refine ⟨_, (pss_one (ps_ret (pe_op op_sub (pe_c C__law_draw hr (by decide) (by rfl) (pa_cons (pv 0) (pa_cons (pe_op op_add (pe_op op_mul pe_int (pv 1)) pe_int) pa_nil))) (pv 1)))), ?_⟩
    refine ⟨_, rfl, _, rfl, 2, m, rfl, rfl, .inl ⟨by decide, by decide⟩, _, 1, rfl, rfl, p, c, 2 * m + 1, n, rfl, by omega, ten90 hm hm2, pen, hn, fun r H1 h0 h9 kp pen1 => ?_⟩
    exact ⟨_, rfl, r, m, rfl, rfl, k _ _ (by omega) kp pen1⟩
theorem sc__law_word : FnScope ["_law_pen_here", "_law_letters", "_law_k"] ["_law_pen_here"] (defScope s__law_word) := ⟨rfl, rfl, rfl, by decide +kernel, rfl, by decide +kernel, by decide +kernel⟩
theorem ok__law_word {f : Addr} {fd : FuncData} (F : Fun K "_law_word" "_law_word" s__law_word f fd) (B : Blt mg) (C__law_draw : Cal P w K mg base 1 "_law_draw" sp__law_draw) (C__law_pickS : Cal P w K mg base 2 "_law_pick" sp__law_pickS) : FnOk P w K mg base CX0 3 f fd ["_law_pen_here"] sp__law_word := by
  refine F.ok sc__law_word (fun vs H Q E h => ?_) (fun cdv A outer s H vs Q E hr h => ?_)
  · obtain ⟨p, c, n, rfl, _⟩ := h
    rfl
  · obtain ⟨p, c, n, rfl, pen, hn, k⟩ := h
    have nd := sc__law_word.nd
    refine ⟨_, (pss_cons (ps_set (i := 1) nd rfl (.inr rfl) pe_str)
    (pss_one (ps_ret (pe_join pe_str (pe_lc (own := [("_law_k", 2)]) (by rfl) nd (pi_range1 (by rfl) B.range (pa_cons (pe_op op_add pe_int (pe_c C__law_draw hr (by decide) (by rfl) (pa_cons (pv 0) (pa_cons pe_int pa_nil)))) pa_nil)) (blkOk_by (N := ["_law_pen_here", "_law_letters", "_law_k"]) (sc := defScope s__law_word) (own := [("_law_k", 2)]) (by decide +kernel)) (fun _ _ _ _ _ => (pg_name (i := 2) nd rfl (.inl rfl))) (fun _ _ _ _ _ => pts_nil) (fun _ _ _ _ _ => (pe_c C__law_pickS hr (by decide) (by rfl) (pa_cons (pv 0) (pa_cons (pv 1) pa_nil))))))))), ?_⟩
    dsimp only [tSeq, tAsg, tC, gName, tRet, tM1]
    refine ⟨⟨_, rfl⟩, ?_⟩
    refine lcPenL (p := p) (c := c) (n + 1) 1 One (fun N => 1 ≤ N ∧ N ≤ 8) (fun S g => ⟨_, rfl, p, c, 8, n, rfl, by decide, by decide, pen, by omega, fun r H1 r0 r8 k1 pen1 => ⟨1, r, rfl, rfl, ?_⟩⟩) (fun _ => rfl) (fun m H2 hm pen2 S g => ⟨_, rfl, _, rfl, p, c, _, _, rfl, pen2, by omega, by decide +kernel, by decide +kernel, fun i H3 hi k3 pen3 => g _ H3 (one_of (abc_mem i hi)) k3 (pen3.mono (by omega))⟩) fun N D H2 ns hN k2 pen2 hD hl hr => ?_
    · have e : (1 : Int) + r = ((r.toNat + 1 : Nat) : Int) := by omega
      show S [V.int (1 + r)] H1
      rw [e]
      exact g _ H1 ⟨by omega, by omega⟩ (by omega) k1 pen1
    · obtain ⟨e1, e2, e3⟩ := one_glue hr
      refine ⟨_, D, ns, rfl, rfl, .inl (SqL.of hD), by rw [e3, show ("" : Str).length = 0 from rfl]; omega, ?_⟩
      exact k _ H2 k2 (pen2.mono (by omega)) e2 (by omega) (by omega)
theorem sc__law_body : FnScope ["_law_pen_here", "_law_most", "_law_reach", "_law_found", "_law_k", "_law_word_here", "_law_most_count"] ["_law_pen_here", "_law_most", "_law_reach"] (defScope s__law_body) := ⟨rfl, rfl, rfl, by decide +kernel, rfl, by decide +kernel, by decide +kernel⟩
theorem ok__law_body {f : Addr} {fd : FuncData} (F : Fun K "_law_body" "_law_body" s__law_body f fd) (B : Blt mg) (C__law_draw : Cal P w K mg base 1 "_law_draw" sp__law_draw) (C__law_pick : Cal P w K mg base 2 "_law_pick" sp__law_pick) (C__law_integer : Cal P w K mg base 2 "_law_integer" sp__law_integer) : FnOk P w K mg base CX0 3 f fd ["_law_pen_here", "_law_most", "_law_reach"] (sp__law_bodyG K) := by
  refine F.ok sc__law_body (fun vs H Q E h => ?_) (fun cdv A outer s H vs Q E hr h => ?_)
  · obtain ⟨p, c, most, reach, n, rfl, _⟩ := h
    rfl
  · obtain ⟨p, cs, most, reach, n, rfl, hm, hm2, hre, hre2, pen, hn, k⟩ := h
    have nd := sc__law_body.nd
    refine ⟨_, (pss_cons (ps_set (i := 3) nd rfl (.inl rfl) (pe_lst pa_nil))
    (pss_cons (ps_for PassesOwn.never rfl (pi_range1 (by rfl) B.range (pa_cons (pe_c C__law_draw hr (by decide) (by rfl) (pa_cons (pv 0) (pa_cons (pe_op op_add (pv 1) pe_int) pa_nil))) pa_nil)) (pg_name (i := 4) nd rfl (.inl rfl))
      (pss_cons (ps_par (i := 5) (j := 6) (by rfl) nd rfl rfl (by decide) rfl rfl (pa_cons (pe_c C__law_pick hr (by decide) (by rfl) (pa_cons (pv 0) (pa_cons (pe_lst (pa_cons pe_str (pa_cons pe_str pa_nil))) pa_nil))) (pa_cons (pe_c C__law_pick hr (by decide) (by rfl) (pa_cons (pv 0) (pa_cons (pe_lst (pa_cons pe_int (pa_cons pe_int (pa_cons (pv 2) pa_nil)))) pa_nil))) pa_nil)) (by rfl))
    (pss_one (ps_expr (pe_bm PySem.F.plainAttrs_list PySem.F.slot_list_append PySem.F.type_list_append mt_append (pv 3) (pa_cons (pe_tup (pa_cons (pv 5) (pa_cons (pe_c C__law_integer hr (by decide) (by rfl) (pa_cons (pv 0) (pa_cons (pv 6) pa_nil))) pa_nil))) pa_nil))))))
    (pss_one (ps_ret (pv 3))))), ?_⟩
    refine ⟨Nat.zero_le _, fun D nD => ?_⟩
    have s1 : Same H (upd H D (.lst [])) := same_new nD
    have npD : D ≠ p := pen.np nD
    have ncD : D ≠ cs := pen.nc nD
    refine ⟨_, rfl, _, rfl, most, 1, rfl, rfl, p, cs, most + 1, n, rfl, by omega, Nat.lt_of_le_of_lt (show (most + 1).natAbs ≤ 1001 by omega) (by decide), pen.same s1, by omega, fun r H1 h0 h9 kp pen1 => ?_⟩
    have hD1 : H1 D = some (.lst []) := kp _ _ npD upd_same
    refine ⟨r, rfl, by omega, by omega, for_range (lo := 0) (n := r.toNat) (fun i σ H2 => ∃ (xs : List V) (b : List Ins) (y z u : Option V), σ = [some (.ref p), some (.int most), some (.int reach), some (.ref D), y, z, u] ∧ Kp p H H2 ∧ PenAt H2 p cs (n + 1 + 3 * i) ∧ H2 D = some (.lst xs) ∧ FIs K H2 xs b ∧ Flat b i (max reach.natAbs 3)) ?_ ?_ ?_⟩
    · exact ⟨[], [], none, none, none, rfl, (Same.kp s1).trans kp, pen1, hD1, .nil, Nat.le_refl _, fun i h => absurd h List.not_mem_nil, fun i h => absurd h List.not_mem_nil⟩
    · rintro i σ H2 hi ⟨xs, b, y, z, u, rfl, k2, pen2, hD2, hF, hfl⟩
      have hxl : xs.length ≤ i := by rw [hF.len]; exact hfl.len
      refine ⟨_, rfl, sl_of (show 2 ≤ 1000000 by decide), fun o1 no1 => ?_⟩
      have z1 := same_new no1 (o := HO.lst [V.str "step", V.str "turn"])
      refine ⟨p, cs, o1, _, _, rfl, pen2.same z1, by omega, upd_same, (show 0 < 2 by decide), (show 2 ≤ 100000 by decide), fun wd H3 hwd k3 pen3 => ?_⟩
      refine ⟨_, rfl, _, rfl, sl_of (show 3 ≤ 1000000 by decide), fun o2 no2 => ?_⟩
      have z2 := same_new no2 (o := HO.lst [V.int 1, V.int 3, V.int reach])
      refine ⟨p, cs, o2, _, _, rfl, pen3.same z2, by omega, upd_same, (show 0 < 3 by decide), (show 3 ≤ 100000 by decide), fun mv H4 hmv k4 pen4 => ?_⟩
      obtain ⟨mc, rfl, hmc0, hmc⟩ : ∃ mc : Int, mv = .int mc ∧ 0 ≤ mc ∧ mc.natAbs ≤ max reach.natAbs 3 := by
        rcases List.mem_cons.mp hmv with e | hmv
        · exact ⟨1, e, by decide, by show 1 ≤ _; omega⟩
        rcases List.mem_cons.mp hmv with e | hmv
        · exact ⟨3, e, by decide, by show 3 ≤ _; omega⟩
        rcases List.mem_cons.mp hmv with e | hmv
        · exact ⟨reach, e, hre, by omega⟩
        exact absurd hmv List.not_mem_nil
      refine ⟨_, _, rfl, ?_⟩
      have k24 : Kp p H2 H4 := (Same.kp z1).trans (k3.trans ((Same.kp z2).trans k4))
      have hD4 : H4 D = some (.lst xs) := k24 _ _ npD hD2
      have hmc9 : mc.natAbs < 10 ^ 90 := by
        rcases List.mem_cons.mp hmv with e | hmv
        · cases e; decide
        rcases List.mem_cons.mp hmv with e | hmv
        · cases e; decide
        rcases List.mem_cons.mp hmv with e | hmv
        · cases e; exact hre2
        exact absurd hmv List.not_mem_nil
      refine ⟨_, rfl, .inl ⟨rfl, _, SqL.of hD4⟩, _, rfl, _, rfl, _, rfl, p, cs, mc, _, rfl, hmc0, hmc9, pen4, by omega, fun ct H5 hct k5 pen5 => ?_⟩
      refine ⟨sl_of (show 2 ≤ 1000000 by decide), fun t nt => ?_⟩
      have hD5 : H5 D = some (.lst xs) := k5 _ _ npD hD4
      have z3 := same_new nt (o := HO.tup [wd, V.int ct])
      have hD6 := z3 _ _ hD5
      refine ⟨D, xs, _, rfl, rfl, hD6, sl_lt (by omega), ?_⟩
      have t2 : Tp (upd H5 t (HO.tup [wd, V.int ct])) (upd (upd H5 t (HO.tup [wd, V.int ct])) D (.lst (xs ++ [.ref t]))) := tp_lst hD6
      have k25 : Kp p H2 H5 := k24.trans k5
      obtain ⟨it, hit, hitf, hitc⟩ : ∃ it, FI K (upd H5 t (HO.tup [wd, V.int ct])) (.ref t) it ∧ isFlat it ∧ (cntOf it).natAbs ≤ max reach.natAbs 3 := by
        rcases List.mem_cons.mp hwd with e | hwd
        · subst e
          exact ⟨.step ct, .inl ⟨t, ct, rfl, SqT.of upd_same, rfl⟩, trivial, Nat.le_trans hct hmc⟩
        rcases List.mem_cons.mp hwd with e | hwd
        · subst e
          exact ⟨.turn ct, .inr ⟨t, ct, rfl, SqT.of upd_same, rfl⟩, trivial, Nat.le_trans hct hmc⟩
        exact absurd hwd List.not_mem_nil
      refine ⟨xs ++ [.ref t], b ++ [it], _, _, _, rfl, fun x o nx ex => ?_, ?_, upd_same, FIs.snoc (hF.tp ((pen2.tp k25).trans ((Same.tp z3).trans t2))) (hit.tp t2), ?_, fun j hj => ?_, fun j hj => ?_⟩
      · rw [upd_ne (ne_of_none ex nD)]
        have ex5 := k25 _ _ nx (k2 _ _ nx ex)
        rw [upd_ne (ne_of_none ex5 nt)]
        exact ex5
      · exact ((pen5.same z3).mono (by omega)).upd npD ncD
      · rw [List.length_append]
        have := hfl.len
        show b.length + 1 ≤ i + 1
        omega
      · rcases List.mem_append.mp hj with h | h
        · exact hfl.flat j h
        · cases List.mem_singleton.mp h
          exact hitf
      · rcases List.mem_append.mp hj with h | h
        · exact hfl.cnt j h
        · cases List.mem_singleton.mp h
          exact hitc
    · rintro σ H2 ⟨xs, b, y, z, u, rfl, k2, pen2, hD2, hF, hfl⟩
      exact ⟨_, rfl, k D xs b H2 nD k2 (pen2.mono (by omega)) hD2 hF ⟨Nat.le_trans hfl.len (by omega), hfl.flat, hfl.cnt⟩⟩
theorem sc__law_calls : FnScope ["_law_pen_here", "_law_many", "_law_found", "_law_base", "_law_k", "_law_letter"] ["_law_pen_here", "_law_many"] (defScope s__law_calls) := ⟨rfl, rfl, rfl, by decide +kernel, rfl, by decide +kernel, by decide +kernel⟩
theorem ok__law_calls {f : Addr} {fd : FuncData} (F : Fun K "_law_calls" "_law_calls" s__law_calls f fd) (B : Blt mg) (C__law_draw : Cal P w K mg base 1 "_law_draw" sp__law_draw) (C__law_pick : Cal P w K mg base 2 "_law_pick" sp__law_pick) (C__law_word : Cal P w K mg base 3 "_law_word" sp__law_word) : FnOk P w K mg base CX0 4 f fd ["_law_pen_here", "_law_many"] sp__law_calls := by
  refine F.ok sc__law_calls (fun vs H Q E h => ?_) (fun cdv A outer s H vs Q E hr h => ?_)
  · obtain ⟨p, c, many, n, rfl, _⟩ := h
    rfl
  · obtain ⟨p, c, many, n, rfl, m0, m7, pen, hn, k⟩ := h
    have nd := sc__law_calls.nd
    refine ⟨_, (pss_cons (ps_par (i := 2) (j := 3) (by rfl) nd rfl rfl (by decide) rfl rfl (pa_cons (pe_lst pa_nil) (pa_cons (pe_c C__law_word hr (by decide) (by rfl) (pa_cons (pv 0) pa_nil)) pa_nil)) (by rfl))
    (pss_cons (ps_for PassesOwn.never rfl (pi_range1 (by rfl) B.range (pa_cons (pv 1) pa_nil)) (pg_name (i := 4) nd rfl (.inl rfl))
      (pss_cons (ps_set (i := 5) nd rfl (.inl rfl) (pe_ix ix_str pe_str (pe_op op_add (pe_op op_mul (pe_c C__law_draw hr (by decide) (by rfl) (pa_cons (pv 0) (pa_cons pe_int pa_nil))) pe_int) (pv 4)) (fun _ _ => rfl)))
    (pss_one (ps_expr (pe_bm PySem.F.plainAttrs_list PySem.F.slot_list_append PySem.F.type_list_append mt_append (pv 2) (pa_cons (pe_op op_add_str (pe_c C__law_pick hr (by decide) (by rfl) (pa_cons (pv 0) (pa_cons (pe_lst (pa_cons (pe_slice sl_str (pv 3) po_none (po_some (pe_un un_neg pe_int))) (pa_cons (pe_slice sl_str (pv 3) po_none (po_some pe_int)) (pa_cons pe_str pa_nil)))) pa_nil))) (pv 5)) pa_nil))))))
    (pss_one (ps_ret (pv 2))))), ?_⟩
    refine ⟨Nat.zero_le _, fun D nD => ?_⟩
    have s1 := same_new nD (o := HO.lst [])
    have npD := pen.np nD
    have ncD := pen.nc nD
    refine ⟨_, rfl, p, c, n, rfl, pen.same s1, by omega, fun z H1 k1 pen1 zl z1 z8 => ?_⟩
    have hD1 := k1 _ _ npD (show (upd H D (.lst [])) D = some (.lst []) from upd_same)
    refine ⟨_, _, rfl, _, rfl, many, rfl, by omega, by omega, for_range (lo := 0) (n := many.toNat) (fun i σ H2 => ∃ (ns : List Str) (y4 y5 : Option V), σ = [some (.ref p), some (.int many), some (.ref D), some (.str z), y4, y5] ∧ Kp p H H2 ∧ PenAt H2 p c (n + 9 + 2 * i) ∧ H2 D = some (.lst (ns.map V.str)) ∧ ns.length = i ∧ ns.Nodup ∧ (∀ x ∈ ns, nameOk x = true) ∧ ∀ x ∈ ns, ∃ j, j < i ∧ Tail x j) ⟨[], none, none, rfl, (Same.kp s1).trans k1, pen1, hD1, rfl, List.nodup_nil, fun x h => absurd h List.not_mem_nil, fun x h => absurd h List.not_mem_nil⟩ ?_ ?_⟩
    · rintro i σ H2 hi ⟨ns, y4, y5, rfl, k2, pen2, hD2, hl, hnd, hok, htl⟩
      have hi7 : i < 7 := by omega
      refine ⟨_, rfl, p, c, 2, _, rfl, by decide, by decide, pen2, by omega, fun r H3 r0 r2 k3 pen3 => ?_⟩
      obtain ⟨d, rfl⟩ : ∃ d : Nat, r = (d : Int) := ⟨r.toNat, by omega⟩
      have hd2 : d < 2 := by omega
      refine ⟨(d : Int), 7, rfl, rfl, .inr (by decide), _, rfl, _, _, rfl, rfl, ?_⟩
      have e : (d : Int) * 7 + (0 + (i : Int)) = ((d * 7 + i : Nat) : Int) := by omega
      refine ⟨_, ((d * 7 + i : Nat) : Int), 97 + (d * 7 + i), rfl, by rw [← e], sl_of (by decide +kernel), atI_nat (abc_at _ (by omega)), ?_⟩
      refine ⟨_, rfl, .inl ⟨rfl, _, SqL.of (k3 _ _ npD hD2)⟩, _, rfl, _, rfl, ?_⟩
      refine ⟨1, rfl, _, rfl, z, rfl, sl_of (by omega), _, rfl, _, rfl, z, rfl, sl_of (by omega), sl_of (show 3 ≤ 1000000 by decide), fun o no => ?_⟩
      have z1' := same_new no (o := HO.lst [V.str (cutS z none (some (-1))), V.str (cutS z none (some 1)), V.str ""])
      refine ⟨p, c, o, _, _, rfl, pen3.same z1', by omega, upd_same, (show 0 < 3 by decide), (show 3 ≤ 100000 by decide), fun v H4 hv k4 pen4 => ?_⟩
      obtain ⟨pre, rfl, hpl, hp7⟩ : ∃ pre : Str, v = .str pre ∧ Ltr pre ∧ pre.length ≤ 7 := by
        rcases List.mem_cons.mp hv with e | hv
        · exact ⟨_, e, ltr_cut zl _ _, cut_end z8⟩
        rcases List.mem_cons.mp hv with e | hv
        · exact ⟨_, e, ltr_cut zl _ _, cut_one z8⟩
        · exact ⟨_, List.mem_singleton.mp hv, ltr_empty, by decide +kernel⟩
      have one := one_of (i := 97 + (d * 7 + i)) ⟨by omega, by omega⟩
      have hl1 := len_app pre ⟨#[97 + (d * 7 + i)]⟩
      rw [one.1] at hl1
      have hDD := k4 _ _ npD (z1' _ _ (k3 _ _ npD hD2))
      have new : Tail (pre ++ ⟨#[97 + (d * 7 + i)]⟩) i := ⟨TL.tl pre, d, hd2, by rw [TL.tl_append, tl_one, Nat.add_assoc]⟩
      refine ⟨_, rfl, pre, _, rfl, rfl, sl_of (by rw [one.1]; omega), D, _, _, rfl, rfl, hDD, sl_lt (by rw [List.length_map, hl]; omega), ?_⟩
      refine ⟨ns ++ [pre ++ ⟨#[97 + (d * 7 + i)]⟩], _, _, rfl, kp_mut (k2.trans (k3.trans ((Same.kp z1').trans k4))) nD, (pen4.upd npD ncD).mono (by omega), by rw [upd_same, List.map_append]; rfl, by rw [List.length_append, hl]; rfl, ?_, fun x hx => ?_, fun x hx => ?_⟩
      · refine List.nodup_append.mpr ⟨hnd, List.nodup_cons.mpr ⟨List.not_mem_nil, List.nodup_nil⟩, fun a ha b hb => ?_⟩
        rw [List.mem_singleton.mp hb]
        obtain ⟨j, hj, tj⟩ := htl a ha
        exact fun e => absurd (tj.ne (by omega) hi7 new e) (by omega)
      · rcases List.mem_append.mp hx with hx | hx
        · exact hok x hx
        · rw [List.mem_singleton.mp hx]
          exact nameOk_of (ltr_app hpl one.2) (by omega) (by omega)
      · rcases List.mem_append.mp hx with hx | hx
        · obtain ⟨j, hj, tj⟩ := htl x hx
          exact ⟨j, by omega, tj⟩
        · rw [List.mem_singleton.mp hx]
          exact ⟨i, by omega, new⟩
    · rintro σ H2 ⟨ns, y4, y5, rfl, k2, pen2, hD2, hl, hnd, hok, htl⟩
      exact ⟨_, rfl, k D ns H2 nD k2 (pen2.mono (by omega)) hD2 hl hnd hok⟩
theorem sc__law_small_program : FnScope ["_law_pen_here", "_law_found", "_law_inner"] ["_law_pen_here"] (defScope s__law_small_program) := ⟨rfl, rfl, rfl, by decide +kernel, rfl, by decide +kernel, by decide +kernel⟩
theorem ok__law_small_program {f : Addr} {fd : FuncData} (F : Fun K "_law_small_program" "_law_small_program" s__law_small_program f fd) (B : Blt mg) (C__law_draw : Cal P w K mg base 1 "_law_draw" sp__law_draw) (C__law_pick : Cal P w K mg base 2 "_law_pick" sp__law_pick) (C__law_body : Cal P w K mg base 3 "_law_body" (sp__law_bodyG K)) : FnOk P w K mg base CX0 4 f fd ["_law_pen_here"] (sp__law_small_programX K) := by
  refine F.ok sc__law_small_program (fun vs H Q E h => ?_) (fun cdv A outer s H vs Q E hr h => ?_)
  · obtain ⟨p, c, n, rfl, _⟩ := h
    rfl
  · obtain ⟨p, c, n, rfl, pen, hn, k⟩ := h
    have nd := sc__law_small_program.nd
    refine ⟨_, (pss_cons (ps_set (i := 1) nd rfl (.inl rfl) (pe_c C__law_body hr (by decide) (by rfl) (pa_cons (pv 0) (pa_cons pe_int (pa_cons pe_int pa_nil)))))
    (pss_cons (ps_cut (ps_if (pt_cmpR op_eq (pe_c C__law_draw hr (by decide) (by rfl) (pa_cons (pv 0) (pa_cons pe_int pa_nil))) pe_int (nomark _))
      (pss_cons (ps_set (i := 2) nd rfl (.inl rfl) (pe_c C__law_body hr (by decide) (by rfl) (pa_cons (pv 0) (pa_cons pe_int (pa_cons pe_int pa_nil)))))
    (pss_one (ps_set (i := 1) nd rfl (.inl rfl) (pe_op op_cat (pv 1) (pe_lst (pa_cons (pe_tup (pa_cons pe_str (pa_cons (pe_c C__law_draw hr (by decide) (by rfl) (pa_cons (pv 0) (pa_cons pe_int pa_nil))) (pa_cons (pe_c C__law_pick hr (by decide) (by rfl) (pa_cons (pv 0) (pa_cons (pe_lst (pa_cons (pv 2) (pa_cons (pe_callTy call_tuple_of (by rfl) B.tuple (by decide +kernel) (pa_cons (pv 2) pa_nil)) pa_nil))) pa_nil))) pa_nil)))) pa_nil))))))
      pss_nil))
    (pss_one (ps_ret (pe_c C__law_pick hr (by decide) (by rfl) (pa_cons (pv 0) (pa_cons (pe_lst (pa_cons (pv 1) (pa_cons (pe_callTy call_tuple_of (by rfl) B.tuple (by decide +kernel) (pa_cons (pv 1) pa_nil)) pa_nil))) pa_nil))))))), ?_⟩
    refine ⟨_, rfl, p, c, 3, 4, n, rfl, by decide, by decide, by decide, by decide +kernel, pen, by omega, fun D0 xs0 b0 H1 nD0 k1 pen1 hD0 hF0 fl0 => ?_⟩
    obtain ⟨kv0, hp0⟩ := pen.dk
    have l0 := hF0.len
    have fl0l : b0.length ≤ 3 := fl0.len
    have m0 : Mild b0 0 3 0 := fl0.mild (by decide)
    refine ⟨fun σ H2 => ∃ D xs b y2, σ = [some (.ref p), some (.ref D), y2] ∧ Kp p H H2 ∧ PenAt H2 p c (n + 25) ∧ H2 D = some (.lst xs) ∧ H D = none ∧ IVs K (er H H2) xs b ∧ Mild b 1 6 1, ?_, ?_⟩
    · refine ⟨_, rfl, p, c, 3, _, rfl, by decide, by decide, pen1, by omega, fun r H2 r0 r9 k2 pen2 => ⟨rfl, _, rfl, ite2 (fun _ => ?_) fun _ => ?_⟩⟩
      · refine ⟨_, rfl, p, c, 2, 3, _, rfl, by decide, by decide, by decide, by decide +kernel, pen2, by omega, fun D3 xs3 b3 H3 nD3 k3 pen3 hD3 hF3 fl3 => ?_⟩
        have l3 := hF3.len
        have m3 : Mild b3 0 2 0 := fl3.mild (by decide)
        have fl3l : b3.length ≤ 2 := fl3.len
        have hD0' := kp_lst (pen1) (k2.trans k3) hD0
        have hI0 : IVs K (er H H3) xs0 b0 := ((hF0.tp (er_tpk hp0 k1)).ivs).ek pen pen1 (k2.trans k3)
        have k03 := k1.trans (k2.trans k3)
        have hI3 : IVs K (er H H3) xs3 b3 := (hF3.tp (er_tpk hp0 k03)).ivs
        refine ⟨_, rfl, _, rfl, p, c, 5, _, rfl, by decide, by decide, pen3, by omega, fun n4 H4 n40 n49 k4 pen4 => ?_⟩
        have hD4 := kp_lst pen3 k4 hD3
        refine ⟨_, rfl, _, rfl, _, rfl, D3, xs3, rfl, .inl ⟨SqL.of hD4, fun t4 nt4 => ?_⟩⟩
        have z1 := same_new nt4 (o := HO.tup xs3)
        refine ⟨sl_of (show 2 ≤ 1000000 by decide), fun o4 no4 => ?_⟩
        have z2 := same_new no4 (o := HO.lst [V.ref D3, V.ref t4])
        have hI4 := ((hI3.ek pen pen3 k4).same (er_same z1)).same (er_same z2)
        have k04 := k03.trans k4
        refine ⟨p, c, o4, _, _, rfl, (pen4.same z1).same z2, by omega, upd_same, (show 0 < 2 by decide), (show 2 ≤ 100000 by decide), fun v5 H5 hv5 k5 pen5 => ?_⟩
        have nD30 : H D3 = none := none_k (k1.trans k2) pen2.dk nD3
        have off : ∀ {a : Addr} {xs : List V}, H a = none → ∀ ys, H a ≠ some (.lst ys) := fun e ys z => by
          rw [e] at z
          cases z
        have pe := (pen4.same z1).same z2
        have nt40 : H t4 = none := none_k k04 pen4.dk nt4
        have pv4 : PV K (er H H5) v5 b3 := by
          rcases List.mem_cons.mp hv5 with e | hv5
          · rw [e]
            exact (pv_list (SqL.of (er_of (z2 _ _ (z1 _ _ hD4)) (off (xs := []) nD30))) hI4).ek pen pe k5
          · rw [List.mem_singleton.mp hv5]
            exact (pv_tup (SqT.of (er_of (z2 _ _ upd_same) (off (xs := []) nt40))) hI4).ek pen pe k5
        refine ⟨sl_of (show 3 ≤ 1000000 by decide), fun t6 nt6 => ⟨sl_of (show 1 ≤ 1000000 by decide), fun o6 no6 => ?_⟩⟩
        have z3 := same_new nt6 (o := HO.tup [V.str "repeat", V.int n4, v5])
        have z4 := same_new no6 (o := HO.lst [V.ref t6])
        have k36 := k4.trans ((Same.kp (z1.trans z2)).trans (k5.trans (Same.kp (z3.trans z4))))
        have hD6 := kp_lst pen3 k36 hD0'
        refine ⟨D0, o6, _, _, rfl, rfl, hD6, upd_same, sl_of (show xs0.length + 1 ≤ 1000000 by omega), fun o7 no7 => ?_⟩
        have z5 := same_new no7 (o := HO.lst (xs0 ++ [V.ref t6]))
        have hI6 := (hI0.ek pen pen3 k36).same (er_same z5)
        have k05 := k04.trans ((Same.kp (z1.trans z2)).trans k5)
        have nt60 : H t6 = none := none_k k05 pen5.dk nt6
        have no70 : H o7 = none := none_k (k05.trans (Same.kp (z3.trans z4))) ((pen5.same z3).same z4).dk no7
        refine ⟨o7, _, b0 ++ [.rep n4 b3], _, rfl, k1.trans (k2.trans (k3.trans (k36.trans (Same.kp z5)))), (((pen5.same z3).same z4).same z5).mono (by omega), upd_same, no70, IVs.app hI6 (.cons (iv_rep (SqT.of (er_of ((z4.trans z5) _ _ upd_same) (off (xs := []) nt60))) (pv4.same (er_same (z3.trans (z4.trans z5))))) .nil), (m0.app (m3.rep n40 (by omega))).up (by decide) (by decide) (by decide)⟩
      · exact ⟨D0, xs0, b0, none, rfl, k1.trans k2, pen2.mono (by omega), kp_lst pen1 k2 hD0, nD0, (hF0.tp (er_tpk hp0 k1)).ivs.ek pen pen1 k2, m0.up (by decide) (by decide) (by decide)⟩
    · rintro σ H2 ⟨D, xs, b, y2, rfl, k2, pen2, hD, nD, hI, hm⟩
      have lx : xs.length ≤ 6 := by
        rw [hI.len]
        exact Nat.le_trans (len_cnP b) hm.gd.c
      refine ⟨_, rfl, _, rfl, _, rfl, D, xs, rfl, .inl ⟨SqL.of hD, fun t4 nt4 => ?_⟩⟩
      have z1 := same_new nt4 (o := HO.tup xs)
      refine ⟨sl_of (show 2 ≤ 1000000 by decide), fun o4 no4 => ?_⟩
      have z2 := same_new no4 (o := HO.lst [V.ref D, V.ref t4])
      have hI4 := (hI.same (er_same z1)).same (er_same z2)
      have nt40 : H t4 = none := none_k k2 pen2.dk nt4
      have off : ∀ {a : Addr} {xs : List V}, H a = none → ∀ ys, H a ≠ some (.lst ys) := fun e ys z => by
        rw [e] at z
        cases z
      refine ⟨p, c, o4, _, _, rfl, (pen2.same z1).same z2, by omega, upd_same, (show 0 < 2 by decide), (show 2 ≤ 100000 by decide), fun v5 H5 hv5 k5 pen5 => ?_⟩
      have pe := (pen2.same z1).same z2
      refine k v5 b H5 (k2.trans ((Same.kp (z1.trans z2)).trans k5)) (pen5.mono (by omega)) ?_ hm
      rcases List.mem_cons.mp hv5 with e | hv5
      · rw [e]
        exact PVx.ek pen pe k5 ⟨D, xs, rfl, .inl (er_of (z2 _ _ (z1 _ _ hD)) (off (xs := []) nD)), hI4⟩
      · rw [List.mem_singleton.mp hv5]
        exact PVx.ek pen pe k5 ⟨t4, xs, rfl, .inr (er_of (z2 _ _ upd_same) (off (xs := []) nt40)), hI4⟩
theorem sc__law_deep_program : FnScope ["_law_pen_here", "_law_found", "_law_inner", "_law_middle", "_law_more"] ["_law_pen_here"] (defScope s__law_deep_program) := ⟨rfl, rfl, rfl, by decide +kernel, rfl, by decide +kernel, by decide +kernel⟩
theorem ok__law_deep_program {f : Addr} {fd : FuncData} (F : Fun K "_law_deep_program" "_law_deep_program" s__law_deep_program f fd) (B : Blt mg) (C__law_draw : Cal P w K mg base 1 "_law_draw" sp__law_draw) (C__law_pick : Cal P w K mg base 2 "_law_pick" sp__law_pick) (C__law_body : Cal P w K mg base 3 "_law_body" (sp__law_bodyG K)) (C__law_small_program : Cal P w K mg base 4 "_law_small_program" (sp__law_small_programX K)) : FnOk P w K mg base CX0 5 f fd ["_law_pen_here"] (sp__law_deep_program K) := by
  refine F.ok sc__law_deep_program (fun vs H Q E h => ?_) (fun cdv A outer s H vs Q E hr h => ?_)
  · obtain ⟨p, c, n, rfl, _⟩ := h
    rfl
  · obtain ⟨p, c, n, rfl, pen, hn, k⟩ := h
    have nd := sc__law_deep_program.nd
    obtain ⟨kv0, hp0⟩ := pen.dk
    have off : ∀ {a : Addr}, H a = none → ∀ ys, H a ≠ some (.lst ys) := fun e ys z => by
      rw [e] at z
      cases z
    refine ⟨_, (pss_cons (ps_set (i := 1) nd rfl (.inl rfl) (pe_c C__law_small_program hr (by decide) (by rfl) (pa_cons (pv 0) pa_nil)))
    (pss_cons (ps_if (pt_cmpR op_gt (pe_c C__law_draw hr (by decide) (by rfl) (pa_cons (pv 0) (pa_cons pe_int pa_nil))) pe_int (nomark _))
      (pss_one (ps_ret (pv 1)))
      pss_nil)
    (pss_cons (ps_set (i := 2) nd rfl (.inl rfl) (pe_c C__law_body hr (by decide) (by rfl) (pa_cons (pv 0) (pa_cons pe_int (pa_cons pe_int pa_nil)))))
    (pss_cons (ps_set (i := 3) nd rfl (.inl rfl) (pe_op op_cat (pe_c C__law_body hr (by decide) (by rfl) (pa_cons (pv 0) (pa_cons pe_int (pa_cons pe_int pa_nil)))) (pe_lst (pa_cons (pe_tup (pa_cons pe_str (pa_cons (pe_c C__law_draw hr (by decide) (by rfl) (pa_cons (pv 0) (pa_cons pe_int pa_nil))) (pa_cons (pe_c C__law_pick hr (by decide) (by rfl) (pa_cons (pv 0) (pa_cons (pe_lst (pa_cons (pv 2) (pa_cons (pe_callTy call_tuple_of (by rfl) B.tuple (by decide +kernel) (pa_cons (pv 2) pa_nil)) pa_nil))) pa_nil))) pa_nil)))) pa_nil))))
    (pss_cons (ps_set (i := 4) nd rfl (.inl rfl) (pe_lst (pa_cons (pe_tup (pa_cons pe_str (pa_cons (pe_c C__law_draw hr (by decide) (by rfl) (pa_cons (pv 0) (pa_cons pe_int pa_nil))) (pa_cons (pe_c C__law_pick hr (by decide) (by rfl) (pa_cons (pv 0) (pa_cons (pe_lst (pa_cons (pv 3) (pa_cons (pe_callTy call_tuple_of (by rfl) B.tuple (by decide +kernel) (pa_cons (pv 3) pa_nil)) pa_nil))) pa_nil))) pa_nil)))) pa_nil)))
    (pss_one (ps_ret (pe_op op_catE (pv 1) (pe_ifExp (pt_val (pe_callB call_isi (by rfl) B.isinstance (by decide +kernel) (pa_cons (pv 1) (pa_cons (pe_bltn (v := .ty "list") (u := .type "list") (by rfl) B.list (by decide +kernel) rfl) pa_nil)))) (pv 4) (pe_callTy call_tuple_of (by rfl) B.tuple (by decide +kernel) (pa_cons (pv 4) pa_nil))))))))))), ?_⟩
    refine ⟨_, rfl, p, c, n, rfl, pen, by omega, fun v b H1 k1 pen1 hv hm => ?_⟩
    refine ⟨_, rfl, p, c, 3, _, rfl, by decide, by decide, pen1, by omega, fun r H2 r0 r9 k2 pen2 => ⟨_, _, rfl, rfl, _, rfl, ite2 (fun _ => ?_) fun _ => ?_⟩⟩
    · exact ⟨_, rfl, k v b H2 (k1.trans k2) (pen2.mono (by omega)) (hv.ek pen pen1 k2).pv (hm.up (by decide) (by decide) (by decide))⟩
    have k02 := k1.trans k2
    -- the inner body
    refine ⟨_, rfl, p, c, 2, 2, _, rfl, by decide, by decide, by decide, by decide +kernel, pen2, by omega, fun D3 xs3 b3 H3 nD3 k3 pen3 hD3 hF3 fl3 => ?_⟩
    have l3 := hF3.len
    have m3 : Mild b3 0 2 0 := fl3.mild (by decide)
    have nD30 : H D3 = none := none_k k02 pen2.dk nD3
    have k03 := k02.trans k3
    have hI3 : IVs K (er H H3) xs3 b3 := (hF3.tp (er_tpk hp0 k03)).ivs
    -- the middle's body
    refine ⟨_, rfl, p, c, 1, 2, _, rfl, by decide, by decide, by decide, by decide +kernel, pen3, by omega, fun D4 xs4 b4 H4 nD4 k4 pen4 hD4 hF4 fl4 => ?_⟩
    have l4 := hF4.len
    have fl4l : b4.length ≤ 1 := fl4.len
    have m4 : Mild b4 0 1 0 := fl4.mild (by decide)
    have nD40 : H D4 = none := none_k k03 pen3.dk nD4
    have k04 := k03.trans k4
    have hI4 : IVs K (er H H4) xs4 b4 := (hF4.tp (er_tpk hp0 k04)).ivs
    refine ⟨_, rfl, p, c, 3, _, rfl, by decide, by decide, pen4, by omega, fun n5 H5 n50 n59 k5 pen5 => ?_⟩
    have hD35 := kp_lst pen3 (k4.trans k5) hD3
    refine ⟨_, rfl, _, rfl, _, rfl, D3, xs3, rfl, .inl ⟨SqL.of hD35, fun t5 nt5 => ?_⟩⟩
    have z1 := same_new nt5 (o := HO.tup xs3)
    refine ⟨sl_of (show 2 ≤ 1000000 by decide), fun o5 no5 => ?_⟩
    have z2 := same_new no5 (o := HO.lst [V.ref D3, V.ref t5])
    have k05 := k04.trans k5
    have hI5 := ((hI3.ek pen pen3 (k4.trans k5)).same (er_same z1)).same (er_same z2)
    have nt50 : H t5 = none := none_k k05 pen5.dk nt5
    have pe := (pen5.same z1).same z2
    refine ⟨p, c, o5, _, _, rfl, pe, by omega, upd_same, (show 0 < 2 by decide), (show 2 ≤ 100000 by decide), fun v6 H6 hv6 k6 pen6 => ?_⟩
    have pv6 : PV K (er H H6) v6 b3 := by
      rcases List.mem_cons.mp hv6 with e | hv6
      · rw [e]
        exact (pv_list (SqL.of (er_of (z2 _ _ (z1 _ _ hD35)) (off nD30))) hI5).ek pen pe k6
      · rw [List.mem_singleton.mp hv6]
        exact (pv_tup (SqT.of (er_of (z2 _ _ upd_same) (off nt50))) hI5).ek pen pe k6
    refine ⟨sl_of (show 3 ≤ 1000000 by decide), fun t7 nt7 => ⟨sl_of (show 1 ≤ 1000000 by decide), fun o7 no7 => ?_⟩⟩
    have z3 := same_new nt7 (o := HO.tup [V.str "repeat", V.int n5, v6])
    have z4 := same_new no7 (o := HO.lst [V.ref t7])
    have k06 := k05.trans ((Same.kp (z1.trans z2)).trans k6)
    have k46 := k5.trans ((Same.kp (z1.trans z2)).trans (k6.trans (Same.kp (z3.trans z4))))
    have hD47 := kp_lst pen4 k46 hD4
    refine ⟨D4, o7, _, _, rfl, rfl, hD47, upd_same, sl_of (show xs4.length + 1 ≤ 1000000 by omega), fun M nM => ?_⟩
    have z5 := same_new nM (o := HO.lst (xs4 ++ [V.ref t7]))
    have nt70 : H t7 = none := none_k k06 pen6.dk nt7
    have nM0 : H M = none := none_k (k06.trans (Same.kp (z3.trans z4))) ((pen6.same z3).same z4).dk nM
    have pen7 := ((pen6.same z3).same z4).same z5
    have k07 := k06.trans (Same.kp (z3.trans (z4.trans z5)))
    have hIm : IVs K (er H _) (xs4 ++ [V.ref t7]) (b4 ++ [.rep n5 b3]) := IVs.app ((hI4.ek pen pen4 k46).same (er_same z5)) (.cons (iv_rep (SqT.of (er_of ((z4.trans z5) _ _ upd_same) (off nt70))) (pv6.same (er_same (z3.trans (z4.trans z5))))) .nil)
    have hM7 : _ = some (HO.lst (xs4 ++ [V.ref t7])) := upd_same (a := M) (o := HO.lst (xs4 ++ [V.ref t7])) (H := upd (upd H6 t7 (.tup [V.str "repeat", V.int n5, v6])) o7 (.lst [V.ref t7]))
    have mm : Mild (b4 ++ [.rep n5 b3]) 1 4 1 := (m4.app (m3.rep n50 (by omega))).up (by decide) (by decide) (by decide)
    have hv7 : PVx K (er H _) v b := ((hv.ek pen pen1 (k2.trans (k3.trans (k4.trans (k5.trans ((Same.kp (z1.trans z2)).trans k6)))))).same (er_same (z3.trans (z4.trans z5))))
    generalize upd (upd (upd H6 t7 (.tup [V.str "repeat", V.int n5, v6])) o7 (.lst [V.ref t7])) M (.lst (xs4 ++ [V.ref t7])) = H7 at pen7 k07 hIm hM7 hv7
    have lm : (xs4 ++ [V.ref t7]).length = xs4.length + 1 := by
      rw [List.length_append]
      rfl
    refine ⟨_, rfl, p, c, 3, _, rfl, by decide, by decide, pen7, by omega, fun n8 H8 n80 n89 k8 pen8 => ?_⟩
    have hM8 := kp_lst pen7 k8 hM7
    refine ⟨_, rfl, _, rfl, _, rfl, M, _, rfl, .inl ⟨SqL.of hM8, fun t8 nt8 => ?_⟩⟩
    have w1 := same_new nt8 (o := HO.tup (xs4 ++ [V.ref t7]))
    refine ⟨sl_of (show 2 ≤ 1000000 by decide), fun o8 no8 => ?_⟩
    have w2 := same_new no8 (o := HO.lst [V.ref M, V.ref t8])
    have k08 := k07.trans k8
    have hI8 := ((hIm.ek pen pen7 k8).same (er_same w1)).same (er_same w2)
    have nt80 : H t8 = none := none_k k08 pen8.dk nt8
    have pe8 := (pen8.same w1).same w2
    refine ⟨p, c, o8, _, _, rfl, pe8, by omega, upd_same, (show 0 < 2 by decide), (show 2 ≤ 100000 by decide), fun v9 H9 hv9 k9 pen9 => ?_⟩
    have pv9 : PV K (er H H9) v9 (b4 ++ [.rep n5 b3]) := by
      rcases List.mem_cons.mp hv9 with e | hv9
      · rw [e]
        exact (pv_list (SqL.of (er_of (w2 _ _ (w1 _ _ hM8)) (off nM0))) hI8).ek pen pe8 k9
      · rw [List.mem_singleton.mp hv9]
        exact (pv_tup (SqT.of (er_of (w2 _ _ upd_same) (off nt80))) hI8).ek pen pe8 k9
    have k09 := k08.trans ((Same.kp (w1.trans w2)).trans k9)
    refine ⟨sl_of (show 3 ≤ 1000000 by decide), fun ta nta => ⟨sl_of (show 1 ≤ 1000000 by decide), fun oa noa => ?_⟩⟩
    have w3 := same_new nta (o := HO.tup [V.str "repeat", V.int n8, v9])
    have w4 := same_new noa (o := HO.lst [V.ref ta])
    have w34 := w3.trans w4
    have nta0 : H ta = none := none_k k09 pen9.dk nta
    have noa0 : H oa = none := none_k (k09.trans (Same.kp w3)) (pen9.same w3).dk noa
    have hva : PVx K (er H _) v b := (((hv7.ek pen pen7 (k8.trans ((Same.kp (w1.trans w2)).trans k9))).same (er_same w3)).same (er_same w4))
    have hIa : IVs K (er H _) [V.ref ta] [.rep n8 (b4 ++ [.rep n5 b3])] := .cons (iv_rep (SqT.of (er_of (w4 _ _ upd_same) (off nta0))) (pv9.same (er_same w34))) .nil
    have hoa := upd_same (a := oa) (o := HO.lst [V.ref ta]) (H := upd H9 ta (.tup [V.str "repeat", V.int n8, v9]))
    have pena := (pen9.same w3).same w4
    have k0a := k09.trans (Same.kp w34)
    have ma : Mild (b ++ [.rep n8 (b4 ++ [.rep n5 b3])]) 2 11 3 := (hm.app (mm.rep n80 (by omega))).up (by decide) (by decide) (by decide)
    generalize upd (upd H9 ta (.tup [V.str "repeat", V.int n8, v9])) oa (.lst [V.ref ta]) = Ha at hva hIa hoa pena k0a
    obtain ⟨a, xs, rfl, ea, hIb⟩ := hva
    have lxs : xs.length ≤ 6 := by
      rw [hIb.len]
      exact Nat.le_trans (len_cnP b) hm.gd.c
    have hIab := IVs.app hIb hIa
    obtain ⟨ds, hds, _⟩ := hIb.all
    have back : ∀ {o : HO} {a : Addr}, er H Ha a = some o → Ha a = some o := fun e => (er_at e).1
    refine ⟨_, rfl, ?_⟩
    rcases ea with ea | ea
    · refine ⟨_, rfl, .ref a, .ty "list", _, _, _, rfl, .ty "list", DpE.ty (Dp.e (.lst (SqL.of (back ea)) (DpAll.same (er_sub H Ha) hds))), kit_list K (.list ds), _, rfl, iteT ?_⟩
      refine ⟨_, rfl, .inl ⟨a, oa, xs, _, rfl, rfl, back ea, hoa, sl_of (show xs.length + 1 ≤ 1000000 by omega), fun R nR => ?_⟩⟩
      have zR := same_new nR (o := HO.lst (xs ++ [V.ref ta]))
      exact k (.ref R) _ _ (k0a.trans (Same.kp zR)) ((pena.same zR).mono (by omega)) (pv_list (SqL.of (er_of upd_same (off (none_k k0a pena.dk nR)))) (hIab.same (er_same zR))) ma
    · refine ⟨_, rfl, .ref a, .ty "list", _, _, _, rfl, .ty "list", DpE.ty (Dp.e (.tup (SqT.of (back ea)) (DpAll.same (er_sub H Ha) hds))), kit_list K (.tuple ds), _, rfl, iteF ?_⟩
      refine ⟨_, rfl, oa, _, rfl, .inl ⟨SqL.of hoa, fun tb ntb => ?_⟩⟩
      have zb := same_new ntb (o := HO.tup [V.ref ta])
      have ntb0 := none_k k0a pena.dk ntb
      have hb := SqT.of (K := K) (upd_same (a := tb) (o := HO.tup [V.ref ta]) (H := Ha))
      have penb := pena.same zb
      have k0b := k0a.trans (Same.kp zb)
      have hIab' := hIab.same (er_same (H0 := H) zb)
      have eb := er_of (H0 := H) (upd_same (a := tb) (o := HO.tup [V.ref ta]) (H := Ha)) (off ntb0)
      refine .inr ⟨a, tb, xs, [V.ref ta], rfl, rfl, SqT.of (zb _ _ (back ea)), hb, sl_of (show xs.length + 1 ≤ 1000000 by omega), fun e => ?_, fun _ e => ?_, fun _ _ R nR => ?_⟩
      · subst e
        exact k (.ref tb) _ _ k0b (penb.mono (by omega)) (pv_tup (SqT.of eb) hIab') ma
      · cases e
      · have zR := same_new nR (o := HO.tup (xs ++ [V.ref ta]))
        exact k (.ref R) _ _ (k0b.trans (Same.kp zR)) ((penb.same zR).mono (by omega)) (pv_tup (SqT.of (er_of upd_same (off (none_k k0b penb.dk nR)))) (hIab'.same (er_same zR))) ma
theorem sc__law_history : FnScope ["_law_pen_here", "_law_names", "_law_most", "_law_is_deep", "_law_found", "_law_known", "_law_k", "_law_left", "_law_code", "_law_name"] ["_law_pen_here", "_law_names", "_law_most", "_law_is_deep"] (defScope s__law_history) := ⟨rfl, rfl, rfl, by decide +kernel, rfl, by decide +kernel, by decide +kernel⟩
theorem ok__law_history {f : Addr} {fd : FuncData} (F : Fun K "_law_history" "_law_history" s__law_history f fd) (B : Blt mg) (C__law_draw : Cal P w K mg base 1 "_law_draw" sp__law_draw) (C__law_pick : Cal P w K mg base 2 "_law_pick" sp__law_pick) (C__law_integer : Cal P w K mg base 2 "_law_integer" sp__law_integer) (C__law_small_program : Cal P w K mg base 4 "_law_small_program" (sp__law_small_program K)) (C__law_deep_program : Cal P w K mg base 5 "_law_deep_program" (sp__law_deep_program K)) : FnOk P w K mg base CX0 6 f fd ["_law_pen_here", "_law_names", "_law_most", "_law_is_deep"] (sp__law_historyD K) := by
  refine F.ok sc__law_history (fun vs H Q E h => ?_) (fun cdv A0 outer s H vs Q E hr h => ?_)
  · obtain ⟨p, c, N, most, dp, ns, n, rfl, _⟩ := h
    rfl
  · obtain ⟨p, c, N, most, dp, ns, n, rfl, m0, m12, hN, hnd, hok, hl0, hl8, pen, hn, k⟩ := h
    have nd := sc__law_history.nd
    have hu2 := hr.units
    obtain ⟨kv0, hp0⟩ := pen.dk
    have Np : N ≠ p := fun z => by
      rw [z, hp0] at hN
      cases hN
    refine ⟨_, (pss_cons (ps_asg (pe_tup (pa_cons (pe_lst pa_nil) (pa_cons (pe_lst pa_nil) pa_nil))) (pg_tup rfl (pgs_cons (pg_name (i := 4) nd rfl (.inl rfl)) (pgs_cons (pg_name (i := 5) nd rfl (.inr rfl)) pgs_nil))))
    (pss_cons (ps_for PassesOwn.never rfl (pi_range1 (by rfl) B.range (pa_cons (pe_c C__law_draw hr (by decide) (by rfl) (pa_cons (pv 0) (pa_cons (pe_op op_add (pv 2) pe_int) pa_nil))) pa_nil)) (pg_name (i := 6) nd rfl (.inl rfl))
      (pss_cons (ps_setLc (i := 7) (own := [("_law_name", 9)]) (by rfl) nd rfl rfl (sw_true rfl rfl rfl (by decide +kernel)) (pi_list (pv 1)) (blkOk_by (N := ["_law_pen_here", "_law_names", "_law_most", "_law_is_deep", "_law_found", "_law_known", "_law_k", "_law_left", "_law_code", "_law_name"]) (sc := defScope s__law_history) (own := [("_law_name", 9)]) (by decide +kernel)) (fun _ _ _ _ _ => (pg_name (i := 9) nd rfl (.inl rfl))) (fun _ _ _ _ _ => (pts_one (pt_cmpR (op_notInK K rfl) (pv 9) (pv 5) rfl))) (fun _ _ _ _ _ => (pv 9)))
    (pss_one (ps_cut (ps_if (PW.pt (pw_or (pt_cmpR (op_eqD hu2) (pv 5) (pe_lst pa_nil) (nomark _)) (pw_or1 (PW.pt (pw_and (pt_cmpR (op_neD hu2) (pv 7) (pe_lst pa_nil) (nomark _)) (pw_and1 (pt_cmpR op_eq (pe_c C__law_draw hr (by decide) (by rfl) (pa_cons (pv 0) (pa_cons pe_int pa_nil))) pe_int (nomark _))))))))
      (pss_cons (ps_expr (pe_bm PySem.F.plainAttrs_list PySem.F.slot_list_append PySem.F.type_list_append mt_append (pv 5) (pa_cons (pe_c C__law_pick hr (by decide) (by rfl) (pa_cons (pv 0) (pa_cons (pv 7) pa_nil))) pa_nil)))
    (pss_one (ps_expr (pe_bm PySem.F.plainAttrs_list PySem.F.slot_list_append PySem.F.type_list_append mt_append (pv 4) (pa_cons (pe_tup (pa_cons pe_str (pa_cons (pe_ix ix_list (pv 5) (pe_un un_neg pe_int) (fun _ _ => rfl)) (pa_cons (pe_c C__law_integer hr (by decide) (by rfl) (pa_cons (pv 0) (pa_cons pe_int pa_nil))) pa_nil)))) pa_nil)))))
      (pss_cons (ps_cut (ps_set (i := 8) nd rfl (.inl rfl) (pe_ifExp (pt_truth (pv 3) (by intro _; rfl)) (pe_c C__law_deep_program hr (by decide) (by rfl) (pa_cons (pv 0) pa_nil)) (pe_c C__law_small_program hr (by decide) (by rfl) (pa_cons (pv 0) pa_nil)))))
    (pss_one (ps_expr (pe_bm PySem.F.plainAttrs_list PySem.F.slot_list_append PySem.F.type_list_append mt_append (pv 4) (pa_cons (pe_tup (pa_cons pe_str (pa_cons (pe_c C__law_pick hr (by decide) (by rfl) (pa_cons (pv 0) (pa_cons (pv 5) pa_nil))) (pa_cons (pv 8) pa_nil)))) pa_nil))))))))))
    (pss_one (ps_ret (pv 4))))), ?_⟩
    refine ⟨Nat.zero_le _, fun D nD => ⟨Nat.zero_le _, fun T nT => ⟨sl_of (show 2 ≤ 1000000 by decide), fun t0 nt0 => ?_⟩⟩⟩
    have z1 := same_new nD (o := HO.lst [])
    have z2 := same_new nT (o := HO.lst [])
    have z3 := same_new nt0 (o := HO.tup [V.ref D, V.ref T])
    have nT0 : H T = none := none_before z1 nT
    have hD0 : upd H D (.lst []) D = some (.lst []) := upd_same
    have DT : D ≠ T := ne_of_none hD0 nT
    have R0 : ActsR DeepP K p c n (upd (upd H D (.lst [])) T (.lst [])) D T [] [] := ⟨(pen.same z1).same z2, ⟨[], z2 _ _ hD0, .nil⟩, upd_same, DT, ⟨pen.np nD, pen.np nT0⟩, ⟨pen.nc nD, pen.nc nT0⟩, .nil, fun _ _ _ h => absurd h List.not_mem_nil⟩
    have R0 := R0.same z3
    have ht0 : SqT K _ t0 [V.ref D, V.ref T] := SqT.of (upd_same (a := t0) (o := HO.tup [V.ref D, V.ref T]) (H := upd (upd H D (.lst [])) T (.lst [])))
    have k0 : Kp p H _ := Same.kp (z1.trans (z2.trans z3))
    generalize upd (upd (upd H D (.lst [])) T (.lst [])) t0 (.tup [V.ref D, V.ref T]) = H1 at R0 k0 ht0
    refine ⟨t0, _, rfl, ht0, rfl, _, _, rfl, _, _, rfl, rfl, ?_⟩
    refine ⟨_, rfl, _, rfl, _, _, rfl, rfl, p, c, most + 1, _, rfl, by omega, Nat.lt_of_le_of_lt (show (most + 1).natAbs ≤ 13 by omega) (by decide), R0.pen, by omega, fun r H2 r0 r9 k2 pen2 => ?_⟩
    refine ⟨r, rfl, by omega, by omega, for_range (lo := 0) (n := r.toNat) (fun i σ H3 => ∃ (as : List Act) (y6 y7 y8 y9 : Option V), σ = [some (.ref p), some (.ref N), some (.int most), some (.bl dp), some (.ref D), some (.ref T), y6, y7, y8, y9] ∧ Kp p H H3 ∧ ActsR DeepP K p c (n + 1 + 70 * i) H3 D T as (namesOf as) ∧ as.length ≤ i ∧ (∀ z ∈ namesOf as, z ∈ ns)) ⟨[], none, none, none, none, rfl, k0.trans k2, (R0.kp k2 pen2).mono (by omega), Nat.le_refl _, fun z h => absurd h List.not_mem_nil⟩ ?_ ?_⟩
    · rintro i σ H3 hi ⟨as, y6, y7, y8, y9, rfl, k3, R3, la, nsub⟩
      obtain ⟨xs0, hD0, hA0⟩ := R3.ls
      have lx0 := hA0.len
      have nl : (namesOf as).length ≤ 12 := by
        have : (namesOf as).length ≤ as.length := List.length_filterMap_le _ _
        omega
      dsimp only [gName, tSeq, tAsg]
      refine lcFilN (ns := ns) (fun z => !decide (z ∈ namesOf as)) (k3 _ _ Np hN) (fun R h => ⟨_, rfl, h⟩) (fun _ => rfl) (by omega) (fun z hz H4 s4 S h => ?_) (fun z H4 S h => ⟨_, rfl, h⟩) fun Lf H4 s4 hLf => ?_
      · refine ⟨_, rfl, _, rfl, T, _, rfl, .inl (SqL.of (s4 _ _ R3.kn)), rfl, flat_strs _, ?_⟩
        rw [inV_strs]
        exact ⟨_, rfl, h⟩
      have R4 := R3.same s4
      refine ⟨fun σ H' => ∃ (as' : List Act) (y8 y9 : Option V), σ = [some (.ref p), some (.ref N), some (.int most), some (.bl dp), some (.ref D), some (.ref T), some (.int (0 + (i : Int))), some (.ref Lf), y8, y9] ∧ Kp p H H' ∧ ActsR DeepP K p c (n + 1 + 70 * (i + 1)) H' D T as' (namesOf as') ∧ as'.length ≤ i + 1 ∧ (∀ z ∈ namesOf as', z ∈ ns), ?_, ?_⟩
      · have lowK : ∀ z ∈ namesOf as, Low z := fun z hz => name_low (hok z (nsub z hz))
        have lowF : ∀ z ∈ ns.filter (fun z => !decide (z ∈ namesOf as)), Low z := fun z hz => name_low (hok z (List.mem_filter.mp hz).1)
        refine ⟨_, rfl, Nat.zero_le _, fun e1 ne1 => ?_⟩
        have u1 := same_new ne1 (o := HO.lst [])
        have k4 : Kp p H H4 := k3.trans (Same.kp s4)
        refine ⟨.list ((namesOf as).map PyData.str), .list [], .lst (SqL.of (u1 _ _ R4.kn)) (all_strs _), .lst (SqL.of upd_same) .nil, strs_shaped lowK, rfl, ?_⟩
        rw [eqv_none]
        refine ⟨_, rfl, ite2 (fun hk0 => ?_) fun hk0 => ?_⟩
        · have hk0 : namesOf as = [] := of_decide_eq_true hk0
          have R5 := R4.same u1
          have k5 := k4.trans (Same.kp u1)
          have hL5 := u1 _ _ hLf
          have ne5 : ns.filter (fun z => !decide (z ∈ namesOf as)) ≠ [] := fun e => by
            rw [hk0] at e
            have all : ns.filter (fun z => !decide (z ∈ ([] : List Str))) = ns := List.filter_eq_self.mpr fun z _ => rfl
            rw [all] at e
            rw [e] at hl0
            exact absurd hl0 (Nat.lt_irrefl _)
          generalize upd H4 e1 (.lst []) = H5 at R5 k5 hL5
          obtain ⟨xs5, hD5, hA5⟩ := R5.ls
          have lx5 := hA5.len
          refine ⟨_, rfl, .inl ⟨rfl, _, SqL.of R5.kn⟩, _, rfl, _, rfl, p, c, Lf, _, _, rfl, R5.pen, by omega, hL5, by rw [List.length_map]; exact List.length_pos_iff.mpr ne5, by rw [List.length_map]; exact Nat.le_trans (List.length_filter_le _ _) (by omega), fun zv H6 hz k6 pen6 => ?_⟩
          obtain ⟨z, hz2, rfl⟩ := List.mem_map.mp hz
          obtain ⟨zns, znew⟩ := List.mem_filter.mp hz2
          have znew : z ∉ namesOf as := fun h => by
            rw [decide_eq_true h] at znew
            cases znew
          have R6 := R5.kp k6 pen6
          have k06 := k5.trans k6
          refine ⟨T, _, _, rfl, rfl, R6.kn, sl_lt (by rw [List.length_map]; omega), ?_⟩
          have R7 := R6.name z
          have k07 := kp_mut (o := HO.lst ((namesOf as).map V.str ++ [V.str z])) k06 nT0
          generalize upd H6 T (.lst ((namesOf as).map V.str ++ [V.str z])) = H7 at R7 k07
          obtain ⟨xs7, hD7, hA7⟩ := R7.ls
          have lx7 := hA7.len
          have last : atI ((namesOf as ++ [z]).map V.str) (-1) = some (V.str z) := at_end (n := (namesOf as).length) (by rw [List.length_map, List.length_append]; rfl) (by rw [List.getElem?_map, List.getElem?_append_right (Nat.le_refl _), Nat.sub_self]; rfl)
          refine ⟨_, rfl, .inl ⟨rfl, _, SqL.of hD7⟩, _, rfl, 1, rfl, T, _, -1, .str z, rfl, rfl, SqL.of R7.kn, last, _, rfl, p, c, 9, _, rfl, by decide, by decide +kernel, R7.pen, by omega, fun pl H8 hpl k8 pen8 => ⟨sl_of (show 3 ≤ 1000000 by decide), fun t nt => ?_⟩⟩
          have st := same_new nt (o := HO.tup [V.str "enter", V.str z, V.int pl])
          have R8 := (R7.kp k8 pen8).same st
          have hD8 := st _ _ (k8 _ _ R7.np.1 hD7)
          have hpl4 : pl.natAbs ≤ 10 ^ 30 := Nat.le_trans hpl (by decide +kernel)
          have R9 := R8.add hD8 (a := .enter z pl) ⟨t, rfl, R8.mok.tup (SqT.of upd_same)⟩ ⟨hok z zns, znew, hpl4⟩ (fun n d b e => by cases e)
          have nmE : namesOf (as ++ [Act.enter z pl]) = namesOf as ++ [z] := by rw [names_app]; rfl
          refine ⟨D, xs7, _, rfl, rfl, hD8, sl_lt (by omega), as ++ [.enter z pl], _, _, rfl, kp_mut (k07.trans (k8.trans (Same.kp st))) nD, by rw [nmE]; exact R9.mono (by omega), by rw [List.length_append]; show as.length + 1 ≤ _; omega, fun y hy => ?_⟩
          rw [nmE] at hy
          rcases List.mem_append.mp hy with h | h
          · exact nsub y h
          · rw [List.mem_singleton.mp h]
            exact zns
        · have kn5 : namesOf as ≠ [] := fun e => hk0 (decide_eq_true e)
          refine ⟨_, rfl, Nat.zero_le _, fun e2 ne2 => ?_⟩
          have u2 := same_new ne2 (o := HO.lst [])
          have u12 := u1.trans u2
          refine ⟨.list ((ns.filter fun z => !decide (z ∈ namesOf as)).map PyData.str), .list [], .lst (SqL.of (u12 _ _ hLf)) (all_strs _), .lst (SqL.of upd_same) .nil, strs_shaped lowF, rfl, ?_⟩
          rw [eqv_none]
          have R5 := R4.same u12
          have k5 := k4.trans (Same.kp u12)
          have hL5 := u12 _ _ hLf
          have LfP : Lf ≠ p := fun z => by
            obtain ⟨_, q⟩ := R4.pen.dk
            rw [← z, hLf] at q
            cases q
          generalize upd (upd H4 e1 (.lst [])) e2 (.lst []) = H5 at R5 k5 hL5
          refine ⟨_, rfl, ite2 (fun hf => ?_) fun hf => ?_⟩
          · have ne5 : ns.filter (fun z => !decide (z ∈ namesOf as)) ≠ [] := fun e => by
              rw [decide_eq_true e] at hf
              cases hf
            refine ⟨_, rfl, p, c, 3, _, rfl, by decide, by decide, R5.pen, by omega, fun r3 H5b r30 r33 k5b pen5b => ⟨rfl, _, rfl, ite2 (fun _ => ?_) fun _ => ?_⟩⟩
            all_goals have R5 := R5.kp k5b pen5b
            all_goals have k5 := k5.trans k5b
            all_goals have hL5 := k5b _ _ LfP hL5
            · skip
              obtain ⟨xs5, hD5, hA5⟩ := R5.ls
              have lx5 := hA5.len
              refine ⟨_, rfl, .inl ⟨rfl, _, SqL.of R5.kn⟩, _, rfl, _, rfl, p, c, Lf, _, _, rfl, R5.pen, by omega, hL5, by rw [List.length_map]; exact List.length_pos_iff.mpr ne5, by rw [List.length_map]; exact Nat.le_trans (List.length_filter_le _ _) (by omega), fun zv H6 hz k6 pen6 => ?_⟩
              obtain ⟨z, hz2, rfl⟩ := List.mem_map.mp hz
              obtain ⟨zns, znew⟩ := List.mem_filter.mp hz2
              have znew : z ∉ namesOf as := fun h => by
                rw [decide_eq_true h] at znew
                cases znew
              have R6 := R5.kp k6 pen6
              have k06 := k5.trans k6
              refine ⟨T, _, _, rfl, rfl, R6.kn, sl_lt (by rw [List.length_map]; omega), ?_⟩
              have R7 := R6.name z
              have k07 := kp_mut (o := HO.lst ((namesOf as).map V.str ++ [V.str z])) k06 nT0
              generalize upd H6 T (.lst ((namesOf as).map V.str ++ [V.str z])) = H7 at R7 k07
              obtain ⟨xs7, hD7, hA7⟩ := R7.ls
              have lx7 := hA7.len
              have last : atI ((namesOf as ++ [z]).map V.str) (-1) = some (V.str z) := at_end (n := (namesOf as).length) (by rw [List.length_map, List.length_append]; rfl) (by rw [List.getElem?_map, List.getElem?_append_right (Nat.le_refl _), Nat.sub_self]; rfl)
              refine ⟨_, rfl, .inl ⟨rfl, _, SqL.of hD7⟩, _, rfl, 1, rfl, T, _, -1, .str z, rfl, rfl, SqL.of R7.kn, last, _, rfl, p, c, 9, _, rfl, by decide, by decide +kernel, R7.pen, by omega, fun pl H8 hpl k8 pen8 => ⟨sl_of (show 3 ≤ 1000000 by decide), fun t nt => ?_⟩⟩
              have st := same_new nt (o := HO.tup [V.str "enter", V.str z, V.int pl])
              have R8 := (R7.kp k8 pen8).same st
              have hD8 := st _ _ (k8 _ _ R7.np.1 hD7)
              have hpl4 : pl.natAbs ≤ 10 ^ 30 := Nat.le_trans hpl (by decide +kernel)
              have R9 := R8.add hD8 (a := .enter z pl) ⟨t, rfl, R8.mok.tup (SqT.of upd_same)⟩ ⟨hok z zns, znew, hpl4⟩ (fun n d b e => by cases e)
              have nmE : namesOf (as ++ [Act.enter z pl]) = namesOf as ++ [z] := by rw [names_app]; rfl
              refine ⟨D, xs7, _, rfl, rfl, hD8, sl_lt (by omega), as ++ [.enter z pl], _, _, rfl, kp_mut (k07.trans (k8.trans (Same.kp st))) nD, by rw [nmE]; exact R9.mono (by omega), by rw [List.length_append]; show as.length + 1 ≤ _; omega, fun y hy => ?_⟩
              rw [nmE] at hy
              rcases List.mem_append.mp hy with h | h
              · exact nsub y h
              · rw [List.mem_singleton.mp h]
                exact zns
            · skip
              refine ⟨fun σ H' => ∃ (u : V) (b : List Ins), σ = [some (.ref p), some (.ref N), some (.int most), some (.bl dp), some (.ref D), some (.ref T), some (.int (0 + (i : Int))), some (.ref Lf), some u, y9] ∧ Kp p H5b H' ∧ PenAt H' p c (n + 1 + 70 * i + 61) ∧ PV K (er H5b H') u b ∧ DeepP b, ?_, ?_⟩
              · refine ⟨_, rfl, dp, rfl, ?_⟩
                cases dp with
                | true => exact ⟨_, rfl, p, c, _, rfl, R5.pen, by omega, fun u b H6 k6 pen6 hu hm => ⟨u, b, rfl, k6, pen6.mono (by omega), hu, hm.deep⟩⟩
                | false => exact ⟨_, rfl, p, c, _, rfl, R5.pen, by omega, fun u b H6 k6 pen6 hu hm => ⟨u, b, rfl, k6, pen6.mono (by omega), hu, (hm.up (by decide) (by decide) (by decide)).deep⟩⟩
              · rintro σ H6 ⟨u, b, rfl, k6, pen6, hub, nb⟩
                obtain ⟨d, hd6, hpd⟩ := R5.fresh pen6 hub
                have R6 := R5.kp k6 pen6
                obtain ⟨xs6, hD6, hA6⟩ := R6.ls
                have lx6 := hA6.len
                refine ⟨_, rfl, .inl ⟨rfl, _, SqL.of hD6⟩, _, rfl, _, rfl, p, c, T, _, _, rfl, pen6, by omega, R6.kn, by rw [List.length_map]; exact List.length_pos_iff.mpr kn5, by rw [List.length_map]; omega, fun wv H7 hw k7 pen7 => ?_⟩
                obtain ⟨w, hw2, rfl⟩ := List.mem_map.mp hw
                refine ⟨_, rfl, sl_of (show 3 ≤ 1000000 by decide), fun t nt => ?_⟩
                have st := same_new nt (o := HO.tup [V.str "run", V.str w, u])
                have R7 := R6.kp k7 pen7
                have hd7 := Dp.same (k7.ks R6.mok.pen).er hd6
                have R8 := R7.same st
                have hD8 := st _ _ (k7 _ _ R6.np.1 hD6)
                have hd8 := Dp.same (Same.ks (M := M3 p D T) st).er hd7
                have R9 := R8.add hD8 (a := .run w d b) ⟨t, u, rfl, R8.mok.tup (SqT.of upd_same), hd8, hpd⟩ ⟨hw2, nb.po, hpd⟩ (fun n d b e => by cases e; exact nb)
                have nmR : namesOf (as ++ [Act.run w d b]) = namesOf as := by rw [names_app]; exact List.append_nil _
                refine ⟨D, xs6, _, rfl, rfl, hD8, sl_lt (by omega), as ++ [.run w d b], _, _, rfl, kp_mut (k5.trans (k6.trans (k7.trans (Same.kp st)))) nD, by rw [nmR]; exact R9.mono (by omega), by rw [List.length_append]; show as.length + 1 ≤ _; omega, fun y hy => ?_⟩
                rw [nmR] at hy
                exact nsub y hy
          · refine iteF ?_
            refine ⟨fun σ H' => ∃ (u : V) (b : List Ins), σ = [some (.ref p), some (.ref N), some (.int most), some (.bl dp), some (.ref D), some (.ref T), some (.int (0 + (i : Int))), some (.ref Lf), some u, y9] ∧ Kp p H5 H' ∧ PenAt H' p c (n + 1 + 70 * i + 61) ∧ PV K (er H5 H') u b ∧ DeepP b, ?_, ?_⟩
            · refine ⟨_, rfl, dp, rfl, ?_⟩
              cases dp with
              | true => exact ⟨_, rfl, p, c, _, rfl, R5.pen, by omega, fun u b H6 k6 pen6 hu hm => ⟨u, b, rfl, k6, pen6.mono (by omega), hu, hm.deep⟩⟩
              | false => exact ⟨_, rfl, p, c, _, rfl, R5.pen, by omega, fun u b H6 k6 pen6 hu hm => ⟨u, b, rfl, k6, pen6.mono (by omega), hu, (hm.up (by decide) (by decide) (by decide)).deep⟩⟩
            · rintro σ H6 ⟨u, b, rfl, k6, pen6, hub, nb⟩
              obtain ⟨d, hd6, hpd⟩ := R5.fresh pen6 hub
              have R6 := R5.kp k6 pen6
              obtain ⟨xs6, hD6, hA6⟩ := R6.ls
              have lx6 := hA6.len
              refine ⟨_, rfl, .inl ⟨rfl, _, SqL.of hD6⟩, _, rfl, _, rfl, p, c, T, _, _, rfl, pen6, by omega, R6.kn, by rw [List.length_map]; exact List.length_pos_iff.mpr kn5, by rw [List.length_map]; omega, fun wv H7 hw k7 pen7 => ?_⟩
              obtain ⟨w, hw2, rfl⟩ := List.mem_map.mp hw
              refine ⟨_, rfl, sl_of (show 3 ≤ 1000000 by decide), fun t nt => ?_⟩
              have st := same_new nt (o := HO.tup [V.str "run", V.str w, u])
              have R7 := R6.kp k7 pen7
              have hd7 := Dp.same (k7.ks R6.mok.pen).er hd6
              have R8 := R7.same st
              have hD8 := st _ _ (k7 _ _ R6.np.1 hD6)
              have hd8 := Dp.same (Same.ks (M := M3 p D T) st).er hd7
              have R9 := R8.add hD8 (a := .run w d b) ⟨t, u, rfl, R8.mok.tup (SqT.of upd_same), hd8, hpd⟩ ⟨hw2, nb.po, hpd⟩ (fun n d b e => by cases e; exact nb)
              have nmR : namesOf (as ++ [Act.run w d b]) = namesOf as := by rw [names_app]; exact List.append_nil _
              refine ⟨D, xs6, _, rfl, rfl, hD8, sl_lt (by omega), as ++ [.run w d b], _, _, rfl, kp_mut (k5.trans (k6.trans (k7.trans (Same.kp st)))) nD, by rw [nmR]; exact R9.mono (by omega), by rw [List.length_append]; show as.length + 1 ≤ _; omega, fun y hy => ?_⟩
              rw [nmR] at hy
              exact nsub y hy
      · rintro σ H5 ⟨as', y8, y9, rfl, k5, R5, la5, ns5⟩
        exact ⟨as', _, _, _, _, rfl, k5, R5, la5, ns5⟩
    · rintro σ H3 ⟨as, y6, y7, y8, y9, rfl, k3, R3, la, nsub⟩
      obtain ⟨xs, hD, hA⟩ := R3.ls
      exact ⟨_, rfl, k D xs as H3 k3 (R3.pen.mono (by omega)) nD hD (hA.same erM_le) R3.tk (by omega) R3.nr nsub⟩
theorem sc__law_act : FnScope ["_law_road", "_law_action"] ["_law_road", "_law_action"] (defScope s__law_act) := ⟨rfl, rfl, rfl, by decide +kernel, rfl, by decide +kernel, by decide +kernel⟩
theorem ok__law_act {C : Addr} {f : Addr} {fd : FuncData} (F : Fun K "_law_act" "_law_act" s__law_act f fd) (B : Blt mg) (T : ClRo K mg C) (M_enter : MetC CX0 P w K mg base C 3 "enter" (sp_enter K C)) (M_run : MetC CX0 P w K mg base C 8 "run" (sp_run K C)) : FnOk P w K mg base CX0 9 f fd ["_law_road", "_law_action"] (sp__law_act K C) := by
  refine F.ok sc__law_act (fun vs H Q E h => ?_) (fun cdv A outer s H vs Q E hr h => ?_)
  · obtain ⟨r, D, T0, p, q, as, bs, M, v, a, rfl, _⟩ := h
    rfl
  · obtain ⟨r, D, T0, p, q, as, bs, M, v, a, rfl, R, mok, hv, ok, few, k⟩ := h
    have nd := sc__law_act.nd
    obtain ⟨dx, hr0⟩ := R.ob
    refine ⟨_, (pss_one (ps_ret (pe_ifExp (pt_cmpR op_eq (pe_ix ix_tup (pv 1) pe_int (fun _ _ => rfl)) pe_str (nomark _)) (pe_meth (pv 0) T.cl M_enter.hm M_enter.ok (hr.mono (by decide)) M_enter.b .nil (E := E0) pass0 (pa_cons (pe_ix ix_tup (pv 1) pe_int (fun _ _ => rfl)) (pa_cons (pe_ix ix_tup (pv 1) pe_int (fun _ _ => rfl)) pa_nil))) (pe_meth (pv 0) T.cl M_run.hm M_run.ok (hr.mono (by decide)) M_run.b .nil (E := E0) pass0 (pa_cons (pe_ix ix_tup (pv 1) pe_int (fun _ _ => rfl)) (pa_cons (pe_ix ix_tup (pv 1) pe_int (fun _ _ => rfl)) pa_nil)))))), ?_⟩
    cases a with
    | enter n pl =>
      obtain ⟨t, rfl, ht⟩ := hv
      refine ⟨_, rfl, t, _, 0, _, rfl, rfl, ht, rfl, rfl, _, rfl, iteS rfl ?_⟩
      exact ⟨_, rfl, r, dx, _, rfl, hr0, ro_no _ _ _ (by decide +kernel), _, rfl, t, _, 1, _, rfl, rfl, ht, rfl, _, rfl, t, _, 2, _, rfl, rfl, ht, rfl, r, D, T0, p, q, as, bs, M, n, pl, rfl, R, mok, ok.1, ok.2.1, ok.2.2, few, k⟩
    | run n d b =>
      obtain ⟨t, u, rfl, ht, hd, hp⟩ := hv
      refine ⟨_, rfl, t, _, 0, _, rfl, rfl, ht, rfl, rfl, _, rfl, iteN (by decide +kernel) ?_⟩
      exact ⟨_, rfl, r, dx, _, rfl, hr0, ro_no _ _ _ (by decide +kernel), _, rfl, t, _, 1, _, rfl, rfl, ht, rfl, _, rfl, t, _, 2, _, rfl, rfl, ht, rfl, r, D, T0, p, q, as, bs, M, n, u, d, b, rfl, R, mok, ok.1, hd, hp, ok.2.1, few, k⟩
theorem sc__law_plain_program : FnScope ["_law_program", "_law_found", "_law_instruction", "_law_deeper"] ["_law_program"] (defScope s__law_plain_program) := ⟨rfl, rfl, rfl, by decide +kernel, rfl, by decide +kernel, by decide +kernel⟩
theorem ok__law_plain_program (k : Nat) (C__law_plain_program : Cal P w K mg base (k + 0) "_law_plain_program" (sp_with_lists K k)) {f : Addr} {fd : FuncData} (F : Fun K "_law_plain_program" "_law_plain_program" s__law_plain_program f fd) (B : Blt mg) : FnOk P w K mg base CX0 (k + 0 + 1) f fd ["_law_program"] (sp_with_lists K (k + 1)) := by
  refine F.ok sc__law_plain_program (fun vs H Q E h => ?_) (fun cdv A outer s H vs Q E hr h => ?_)
  · obtain ⟨v, d, b, rfl, _⟩ := h
    rfl
  · obtain ⟨v, d, b, rfl, hv, hp, hd, hk, hc, q⟩ := h
    have nd := sc__law_plain_program.nd
    have hlb : b.length ≤ 1000 := Nat.le_trans (len_cnP b) hc
    have at_ld : ∀ (m : Nat) (i : Ins), b[m]? = some i → (ldA b)[m]? = some (ldI i) := fun m i e => ld_at e
    cases hp
    · rename_i ds hall
      cases hv
      rename_i a xs hs hds
      have hlen := DpAll.len hds
      have hlen2 := hall.len
      refine ⟨_, (pss_cons (ps_set (i := 1) nd rfl (.inl rfl) (pe_lst pa_nil))
    (pss_cons (ps_for PassesOwn.never rfl (pi_list (pv 0)) (pg_name (i := 2) nd rfl (.inl rfl))
      (pss_cons (ps_set (i := 3) nd rfl (.inl rfl) (pe_cmpR op_eq (pe_ix ix_tup (pv 2) pe_int (fun _ _ => rfl)) pe_str (nomark _)))
    (pss_one (ps_expr (pe_bm PySem.F.plainAttrs_list PySem.F.slot_list_append PySem.F.type_list_append mt_append (pv 1) (pa_cons (pe_op op_catA (pe_slice sl_tupA (pv 2) po_none (po_some pe_int)) (pe_ifExp (pt_truth (pv 3) (by intro _; rfl)) (pe_tup (pa_cons (pe_c C__law_plain_program hr (by omega) (by rfl) (pa_cons (pe_ix ix_tup (pv 2) pe_int (fun _ _ => rfl)) pa_nil)) pa_nil)) (pe_tup pa_nil))) pa_nil))))))
    (pss_one (ps_ret (pv 1))))), ?_⟩
      refine ⟨Nat.zero_le _, fun D nD => ?_⟩
      have s1 := same_new nD (o := HO.lst [])
      refine ⟨_, rfl, a, rfl, ⟨_, same_l s1 hs⟩, for_list (K := K) (a := a) (xs := xs) (fun m σ H2 => ∃ (y y2 : Option V) (ys : List V), σ = [some (.ref a), some (.ref D), y, y2] ∧ Same H H2 ∧ H2 D = some (.lst ys) ∧ DpAll K (er1 D (er H H2)) ys ((ldA b).take m)) ⟨none, none, [], rfl, s1, upd_same, .nil⟩ ?_ ?_ ?_⟩
      · rintro m σ H2 _ ⟨y, y2, ys, _, s2, _⟩
        exact same_l s2 hs
      · rintro m x σ H2 hm ⟨y, y2, ys, rfl, s2, hD, hY⟩
        obtain ⟨dd, hdd, hx⟩ := DpAll.get hds hm
        obtain ⟨i, hi, hI⟩ := hall.get hdd
        have hld := at_ld m i hi
        have ml : m < ds.length := (List.getElem?_eq_some_iff.mp hdd).1
        have yl := DpAll.len hY
        rw [List.length_take] at yl
        have hm2 := List.mem_of_getElem? hi
        have fin : ∀ (y : V) (H3 : Hp), Same H2 H3 → Dp K (er1 D (er H H3)) y (ldI i) → H3 D = some (.lst ys) ∧ ys.length < sizeLine ∧ Same H (upd H3 D (.lst (ys ++ [y]))) ∧ (upd H3 D (.lst (ys ++ [y]))) D = some (.lst (ys ++ [y])) ∧ DpAll K (er1 D (er H (upd H3 D (.lst (ys ++ [y]))))) (ys ++ [y]) ((ldA b).take (m + 1)) := fun y H3 s3 hy => by
          refine ⟨s3 _ _ hD, sl_lt (by omega), same_mut (s2.trans s3) nD, upd_same, ?_⟩
          rw [take_snoc hld]
          exact DpAll.append (DpAll.same ((er1_sameS s3).trans er1_updS) hY) (.cons (Dp.same er1_updS hy) .nil)
        have told := er_oldS s2 nD
        rcases (show IV K H x i from ⟨dd, hx, hI⟩).inv with ⟨c, n, rfl, ht, rfl⟩ | ⟨c, n, rfl, ht, rfl⟩ | ⟨c, n, y', bb, rfl, ht, hy, rfl⟩
        · have ht2 := same_t s2 ht
          refine ⟨_, rfl, c, _, 0, _, rfl, rfl, ht2, rfl, rfl, ?_⟩
          refine ⟨_, rfl, .inl ⟨rfl, _, SqL.of hD⟩, _, rfl, 2, rfl, c, _, rfl, ht2, fun _ => ?_, fun z => absurd ⟨rfl, rfl⟩ z⟩
          refine ⟨_, rfl, false, (decide_eq_false v_sr).symm, iteF ?_⟩
          refine ⟨Nat.zero_le _, fun t nt => ?_⟩
          have st := same_new nt (o := HO.tup [])
          refine ⟨c, t, _, [], rfl, rfl, same_t st ht2, SqT.of upd_same, sl_of (show 2 ≤ 1000000 by decide), (fun z => nomatch z), fun _ _ => ?_, fun _ z => absurd rfl z⟩
          obtain ⟨f1, f2, f3, f4, f5⟩ := fin (.ref c) _ st (by rw [ldI]; exact .tup (tp_t (told.trans (Same.tp (er1_sameS st))) ht) (.cons (.str _) (.cons (.int _) .nil)))
          exact ⟨D, _, _, rfl, rfl, f1, f2, _, _, _, rfl, f3, f4, f5⟩
        · have ht2 := same_t s2 ht
          refine ⟨_, rfl, c, _, 0, _, rfl, rfl, ht2, rfl, rfl, ?_⟩
          refine ⟨_, rfl, .inl ⟨rfl, _, SqL.of hD⟩, _, rfl, 2, rfl, c, _, rfl, ht2, fun _ => ?_, fun z => absurd ⟨rfl, rfl⟩ z⟩
          refine ⟨_, rfl, false, (decide_eq_false v_tr).symm, iteF ?_⟩
          refine ⟨Nat.zero_le _, fun t nt => ?_⟩
          have st := same_new nt (o := HO.tup [])
          refine ⟨c, t, _, [], rfl, rfl, same_t st ht2, SqT.of upd_same, sl_of (show 2 ≤ 1000000 by decide), (fun z => nomatch z), fun _ _ => ?_, fun _ z => absurd rfl z⟩
          obtain ⟨f1, f2, f3, f4, f5⟩ := fin (.ref c) _ st (by rw [ldI]; exact .tup (tp_t (told.trans (Same.tp (er1_sameS st))) ht) (.cons (.str _) (.cons (.int _) .nil)))
          exact ⟨D, _, _, rfl, rfl, f1, f2, _, _, _, rfl, f3, f4, f5⟩
        · have ht2 := same_t s2 ht
          refine ⟨_, rfl, c, _, 0, _, rfl, rfl, ht2, rfl, rfl, ?_⟩
          have hdi := dpP_mem hm2
          rw [dpI] at hdi
          have hci := cnP_mem hm2
          rw [cnI] at hci
          obtain ⟨d2, rfl, hp2⟩ := hI.rep_inv
          obtain ⟨c', y'', ec, ht3, hy3⟩ := Dp.three hx
          cases ec
          have ht4 := same_t s2 ht3
          refine ⟨_, rfl, .inl ⟨rfl, _, SqL.of hD⟩, _, rfl, 2, rfl, c, _, rfl, ht4, fun z => absurd z.2 (show ¬ (2 : Nat) = 3 by decide), fun _ t1 nt1 => ?_⟩
          have w1 := same_new nt1 (o := HO.tup [V.str "repeat", V.int n])
          refine ⟨_, rfl, true, (decide_eq_true rfl).symm, iteT ?_⟩
          have s4 := s2.trans w1
          refine ⟨_, rfl, c, _, 2, _, rfl, rfl, same_t w1 ht4, rfl, y'', d2, bb, rfl, Dp.same s4 hy3, hp2, by omega, by omega, by omega, fun v' H3 s3 hv' => ⟨sl_of (show 1 ≤ 1000000 by decide), fun t2 nt2 => ?_⟩⟩
          have w2 := same_new nt2 (o := HO.tup [v'])
          refine ⟨t1, t2, [V.str "repeat", V.int n], [v'], rfl, rfl, SqT.of (w2 _ _ (s3 _ _ upd_same)), SqT.of upd_same, sl_of (show 3 ≤ 1000000 by decide), fun z => (nomatch z), fun _ z => (nomatch z), fun _ _ t nt => ?_⟩
          have w3 := same_new nt (o := HO.tup ([V.str "repeat", V.int n] ++ [v']))
          have hDw := w1 _ _ hD
          have hD3 := w2 _ _ (s3 _ _ hDw)
          obtain ⟨f1, f2, f3, f4, f5⟩ := fin (.ref t) _ (w1.trans (s3.trans (w2.trans w3))) (by
            rw [ldI]
            refine .tup (SqT.of ?_) (.cons (.str _) (.cons (.int _) (.cons (Dp.same ((er_inS s4 hDw).trans (er1_sameS (w2.trans w3))) hv') .nil)))
            refine er1_of (ne_of_none hD3 nt).symm (er_of upd_same fun ws z => ?_)
            rw [w2 _ _ (s3 _ _ (s4 _ _ z))] at nt
            cases nt)
          exact ⟨D, _, _, rfl, rfl, f1, f2, _, _, _, rfl, f3, f4, f5⟩
      · rintro σ H2 ⟨y, y2, ys, rfl, s2, hD, hY⟩
        have full : (ldA b).take xs.length = ldA b := List.take_of_length_le (by rw [ld_len]; omega)
        rw [full] at hY
        have hY2 : DpAll K (er H H2) ys (ldA b) := DpAll.same (fun b o e => (er1_at e).2) hY
        exact ⟨_, rfl, q (.ref D) H2 s2 (.lst (SqL.of (er_of hD fun ws z => by rw [nD] at z; cases z)) hY2)⟩
    · rename_i ds hall
      cases hv
      rename_i a xs hs hds
      have hlen := DpAll.len hds
      have hlen2 := hall.len
      refine ⟨_, (pss_cons (ps_set (i := 1) nd rfl (.inl rfl) (pe_lst pa_nil))
    (pss_cons (ps_for PassesOwn.never rfl (pi_tup (pv 0)) (pg_name (i := 2) nd rfl (.inl rfl))
      (pss_cons (ps_set (i := 3) nd rfl (.inl rfl) (pe_cmpR op_eq (pe_ix ix_tup (pv 2) pe_int (fun _ _ => rfl)) pe_str (nomark _)))
    (pss_one (ps_expr (pe_bm PySem.F.plainAttrs_list PySem.F.slot_list_append PySem.F.type_list_append mt_append (pv 1) (pa_cons (pe_op op_catA (pe_slice sl_tupA (pv 2) po_none (po_some pe_int)) (pe_ifExp (pt_truth (pv 3) (by intro _; rfl)) (pe_tup (pa_cons (pe_c C__law_plain_program hr (by omega) (by rfl) (pa_cons (pe_ix ix_tup (pv 2) pe_int (fun _ _ => rfl)) pa_nil)) pa_nil)) (pe_tup pa_nil))) pa_nil))))))
    (pss_one (ps_ret (pv 1))))), ?_⟩
      refine ⟨Nat.zero_le _, fun D nD => ?_⟩
      have s1 := same_new nD (o := HO.lst [])
      refine ⟨_, rfl, a, rfl, ⟨_, same_t s1 hs⟩, for_tup (K := K) (a := a) (xs := xs) (fun m σ H2 => ∃ (y y2 : Option V) (ys : List V), σ = [some (.ref a), some (.ref D), y, y2] ∧ Same H H2 ∧ H2 D = some (.lst ys) ∧ DpAll K (er1 D (er H H2)) ys ((ldA b).take m)) ⟨none, none, [], rfl, s1, upd_same, .nil⟩ ?_ ?_ ?_⟩
      · rintro m σ H2 _ ⟨y, y2, ys, _, s2, _⟩
        exact same_t s2 hs
      · rintro m x σ H2 hm ⟨y, y2, ys, rfl, s2, hD, hY⟩
        obtain ⟨dd, hdd, hx⟩ := DpAll.get hds hm
        obtain ⟨i, hi, hI⟩ := hall.get hdd
        have hld := at_ld m i hi
        have ml : m < ds.length := (List.getElem?_eq_some_iff.mp hdd).1
        have yl := DpAll.len hY
        rw [List.length_take] at yl
        have hm2 := List.mem_of_getElem? hi
        have fin : ∀ (y : V) (H3 : Hp), Same H2 H3 → Dp K (er1 D (er H H3)) y (ldI i) → H3 D = some (.lst ys) ∧ ys.length < sizeLine ∧ Same H (upd H3 D (.lst (ys ++ [y]))) ∧ (upd H3 D (.lst (ys ++ [y]))) D = some (.lst (ys ++ [y])) ∧ DpAll K (er1 D (er H (upd H3 D (.lst (ys ++ [y]))))) (ys ++ [y]) ((ldA b).take (m + 1)) := fun y H3 s3 hy => by
          refine ⟨s3 _ _ hD, sl_lt (by omega), same_mut (s2.trans s3) nD, upd_same, ?_⟩
          rw [take_snoc hld]
          exact DpAll.append (DpAll.same ((er1_sameS s3).trans er1_updS) hY) (.cons (Dp.same er1_updS hy) .nil)
        have told := er_oldS s2 nD
        rcases (show IV K H x i from ⟨dd, hx, hI⟩).inv with ⟨c, n, rfl, ht, rfl⟩ | ⟨c, n, rfl, ht, rfl⟩ | ⟨c, n, y', bb, rfl, ht, hy, rfl⟩
        · have ht2 := same_t s2 ht
          refine ⟨_, rfl, c, _, 0, _, rfl, rfl, ht2, rfl, rfl, ?_⟩
          refine ⟨_, rfl, .inl ⟨rfl, _, SqL.of hD⟩, _, rfl, 2, rfl, c, _, rfl, ht2, fun _ => ?_, fun z => absurd ⟨rfl, rfl⟩ z⟩
          refine ⟨_, rfl, false, (decide_eq_false v_sr).symm, iteF ?_⟩
          refine ⟨Nat.zero_le _, fun t nt => ?_⟩
          have st := same_new nt (o := HO.tup [])
          refine ⟨c, t, _, [], rfl, rfl, same_t st ht2, SqT.of upd_same, sl_of (show 2 ≤ 1000000 by decide), (fun z => nomatch z), fun _ _ => ?_, fun _ z => absurd rfl z⟩
          obtain ⟨f1, f2, f3, f4, f5⟩ := fin (.ref c) _ st (by rw [ldI]; exact .tup (tp_t (told.trans (Same.tp (er1_sameS st))) ht) (.cons (.str _) (.cons (.int _) .nil)))
          exact ⟨D, _, _, rfl, rfl, f1, f2, _, _, _, rfl, f3, f4, f5⟩
        · have ht2 := same_t s2 ht
          refine ⟨_, rfl, c, _, 0, _, rfl, rfl, ht2, rfl, rfl, ?_⟩
          refine ⟨_, rfl, .inl ⟨rfl, _, SqL.of hD⟩, _, rfl, 2, rfl, c, _, rfl, ht2, fun _ => ?_, fun z => absurd ⟨rfl, rfl⟩ z⟩
          refine ⟨_, rfl, false, (decide_eq_false v_tr).symm, iteF ?_⟩
          refine ⟨Nat.zero_le _, fun t nt => ?_⟩
          have st := same_new nt (o := HO.tup [])
          refine ⟨c, t, _, [], rfl, rfl, same_t st ht2, SqT.of upd_same, sl_of (show 2 ≤ 1000000 by decide), (fun z => nomatch z), fun _ _ => ?_, fun _ z => absurd rfl z⟩
          obtain ⟨f1, f2, f3, f4, f5⟩ := fin (.ref c) _ st (by rw [ldI]; exact .tup (tp_t (told.trans (Same.tp (er1_sameS st))) ht) (.cons (.str _) (.cons (.int _) .nil)))
          exact ⟨D, _, _, rfl, rfl, f1, f2, _, _, _, rfl, f3, f4, f5⟩
        · have ht2 := same_t s2 ht
          refine ⟨_, rfl, c, _, 0, _, rfl, rfl, ht2, rfl, rfl, ?_⟩
          have hdi := dpP_mem hm2
          rw [dpI] at hdi
          have hci := cnP_mem hm2
          rw [cnI] at hci
          obtain ⟨d2, rfl, hp2⟩ := hI.rep_inv
          obtain ⟨c', y'', ec, ht3, hy3⟩ := Dp.three hx
          cases ec
          have ht4 := same_t s2 ht3
          refine ⟨_, rfl, .inl ⟨rfl, _, SqL.of hD⟩, _, rfl, 2, rfl, c, _, rfl, ht4, fun z => absurd z.2 (show ¬ (2 : Nat) = 3 by decide), fun _ t1 nt1 => ?_⟩
          have w1 := same_new nt1 (o := HO.tup [V.str "repeat", V.int n])
          refine ⟨_, rfl, true, (decide_eq_true rfl).symm, iteT ?_⟩
          have s4 := s2.trans w1
          refine ⟨_, rfl, c, _, 2, _, rfl, rfl, same_t w1 ht4, rfl, y'', d2, bb, rfl, Dp.same s4 hy3, hp2, by omega, by omega, by omega, fun v' H3 s3 hv' => ⟨sl_of (show 1 ≤ 1000000 by decide), fun t2 nt2 => ?_⟩⟩
          have w2 := same_new nt2 (o := HO.tup [v'])
          refine ⟨t1, t2, [V.str "repeat", V.int n], [v'], rfl, rfl, SqT.of (w2 _ _ (s3 _ _ upd_same)), SqT.of upd_same, sl_of (show 3 ≤ 1000000 by decide), fun z => (nomatch z), fun _ z => (nomatch z), fun _ _ t nt => ?_⟩
          have w3 := same_new nt (o := HO.tup ([V.str "repeat", V.int n] ++ [v']))
          have hDw := w1 _ _ hD
          have hD3 := w2 _ _ (s3 _ _ hDw)
          obtain ⟨f1, f2, f3, f4, f5⟩ := fin (.ref t) _ (w1.trans (s3.trans (w2.trans w3))) (by
            rw [ldI]
            refine .tup (SqT.of ?_) (.cons (.str _) (.cons (.int _) (.cons (Dp.same ((er_inS s4 hDw).trans (er1_sameS (w2.trans w3))) hv') .nil)))
            refine er1_of (ne_of_none hD3 nt).symm (er_of upd_same fun ws z => ?_)
            rw [w2 _ _ (s3 _ _ (s4 _ _ z))] at nt
            cases nt)
          exact ⟨D, _, _, rfl, rfl, f1, f2, _, _, _, rfl, f3, f4, f5⟩
      · rintro σ H2 ⟨y, y2, ys, rfl, s2, hD, hY⟩
        have full : (ldA b).take xs.length = ldA b := List.take_of_length_le (by rw [ld_len]; omega)
        rw [full] at hY
        have hY2 : DpAll K (er H H2) ys (ldA b) := DpAll.same (fun b o e => (er1_at e).2) hY
        exact ⟨_, rfl, q (.ref D) H2 s2 (.lst (SqL.of (er_of hD fun ws z => by rw [nD] at z; cases z)) hY2)⟩
theorem sc__law_program_text : FnScope ["_law_program", "_law_found", "_law_instruction", "_law_inner"] ["_law_program"] (defScope s__law_program_text) := ⟨rfl, rfl, rfl, by decide +kernel, rfl, by decide +kernel, by decide +kernel⟩
theorem ok__law_program_text (k : Nat) (C__law_program_text : Cal P w K mg base (k + 0) "_law_program_text" (sp__law_text K k)) {f : Addr} {fd : FuncData} (F : Fun K "_law_program_text" "_law_program_text" s__law_program_text f fd) (B : Blt mg) : FnOk P w K mg base CX0 (k + 0 + 1) f fd ["_law_program"] (sp__law_text K (k + 1)) := by
  refine F.ok sc__law_program_text (fun vs H Q E h => ?_) (fun cdv A outer s H vs Q E hr h => ?_)
  · obtain ⟨v, b, rfl, _⟩ := h
    rfl
  · obtain ⟨v, b, rfl, hv, hd, hk, hg, hc, q⟩ := h
    have nd := sc__law_program_text.nd
    obtain ⟨a, xs, rfl, hsq, hI⟩ := hv.inv
    have word1 : (" " : Str).length = 1 := by decide +kernel
    have hxl : xs.length = b.length := hI.len
    have hbl := len_cnP b
    rcases hsq with hs | hs
    · refine ⟨_, (pss_cons (ps_set (i := 1) nd rfl (.inl rfl) (pe_lst pa_nil))
    (pss_cons (ps_for PassesOwn.never rfl (pi_list (pv 0)) (pg_name (i := 2) nd rfl (.inl rfl))
      (pss_cons (ps_expr (pe_bm PySem.F.plainAttrs_list PySem.F.slot_list_extend PySem.F.type_list_extend mt_extend (pv 1) (pa_cons (pe_lst (pa_cons (pe_ix ix_tup (pv 2) pe_int (fun _ _ => rfl)) (pa_cons (pe_callTy call_str_int (by rfl) B.str (by decide +kernel) (pa_cons (pe_ix ix_tup (pv 2) pe_int (fun _ _ => rfl)) pa_nil)) pa_nil))) pa_nil)))
    (pss_one (ps_if (pt_cmpR op_eq (pe_ix ix_tup (pv 2) pe_int (fun _ _ => rfl)) pe_str (nomark _))
      (pss_cons (ps_set (i := 3) nd rfl (.inl rfl) (pe_c C__law_program_text hr (by omega) (by rfl) (pa_cons (pe_ix ix_tup (pv 2) pe_int (fun _ _ => rfl)) pa_nil)))
    (pss_one (ps_expr (pe_bm PySem.F.plainAttrs_list PySem.F.slot_list_append PySem.F.type_list_append mt_append (pv 1) (pa_cons (pe_cut (pe_ifExp (pt_cmpR op_ne (pv 3) pe_str (nomark _)) (pe_op op_add_str (pe_op op_add_str pe_str (pv 3)) pe_str) pe_str)) pa_nil)))))
      pss_nil))))
    (pss_one (ps_ret (pe_join pe_str (pv 1)))))), ?_⟩
      refine ⟨Nat.zero_le _, fun D nD => ?_⟩
      have s1 := same_new nD (o := HO.lst [])
      refine ⟨_, rfl, a, rfl, ⟨_, same_l s1 hs⟩, for_list (K := K) (a := a) (xs := xs) (fun j σ H2 => ∃ (gs : List (List Str)) (y y2 : Option V), σ = [some (.ref a), some (.ref D), y, y2] ∧ Same H H2 ∧ H2 D = some (.lst ((gs.map jn).map V.str)) ∧ (∀ g ∈ gs, g ≠ []) ∧ gs.flatten = tkP (b.take j) ∧ gs.length ≤ 3 * j) ⟨[], none, none, rfl, s1, upd_same, fun g h => absurd h List.not_mem_nil, by rw [List.take_zero, tkP_nil]; rfl, Nat.zero_le _⟩ ?_ ?_ ?_⟩
      · rintro j σ H2 _ ⟨gs, y, y2, _, s2, _⟩
        exact same_l s2 hs
      · rintro j x σ H2 hj ⟨gs, y, y2, rfl, s2, hD2, hne, hfl, hgl⟩
        obtain ⟨i, hi, hx0⟩ := hI.get hj
        have hm := List.mem_of_getElem? hi
        have hjl : j < b.length := (List.getElem?_eq_some_iff.mp hi).1
        have gi := CtP_mem hg hm
        have sn := tkP_snoc hi
        have two : ∀ (wd : Str) (c : Int), (gs.map jn).map V.str ++ [V.str wd, V.str (ctS c)] = (((gs ++ [[wd], [ctS c]]).map jn).map V.str) := fun wd c => by
          rw [List.map_append, List.map_append]
          show _ = _ ++ [V.str (jn [wd]), V.str (jn [ctS c])]
          rw [jn_one, jn_one]
        rcases hx0.inv with ⟨e, m, rfl, ht0, rfl⟩ | ⟨e, m, rfl, ht0, rfl⟩ | ⟨e, m, y', bb, rfl, ht0, hy0, rfl⟩
        all_goals have ht := same_t s2 ht0
        · rw [CtI] at gi
          refine ⟨_, rfl, .inl ⟨rfl, _, SqL.of hD2⟩, _, rfl, e, _, 0, _, rfl, rfl, ht, rfl, _, rfl, e, _, 1, _, rfl, rfl, ht, rfl, m, rfl, lg_ct gi, sl_of (show 2 ≤ 1000000 by decide), fun L nL => ?_⟩
          have z1 := same_new nL (o := HO.lst [V.str "step", V.str (ctS m)])
          refine ⟨D, L, _, [V.str "step", V.str (ctS m)], rfl, rfl, z1 _ _ hD2, upd_same, sl_of (by simp only [List.length_map, List.length_cons, List.length_nil]; omega), ?_⟩
          refine ⟨_, rfl, e, _, 0, _, rfl, rfl, tp_t ((Same.tp z1).trans (tp_lst (z1 _ _ hD2))) ht, rfl, rfl, _, rfl, iteN v_sr ?_⟩
          refine ⟨gs ++ [[("step" : Str)], [ctS m]], _, _, rfl, same_mut (s2.trans z1) nD, ?_, fun g hg => ?_, ?_, by rw [List.length_append]; show _ + 2 ≤ _; omega⟩
          · rw [upd_same, two]
          · rcases List.mem_append.mp hg with h | h
            · exact hne g h
            · rcases List.mem_cons.mp h with rfl | h
              · simp
              · rw [List.mem_singleton.mp h]
                simp
          · rw [List.flatten_append, hfl, sn, tkI]
            rfl
        · rw [CtI] at gi
          refine ⟨_, rfl, .inl ⟨rfl, _, SqL.of hD2⟩, _, rfl, e, _, 0, _, rfl, rfl, ht, rfl, _, rfl, e, _, 1, _, rfl, rfl, ht, rfl, m, rfl, lg_ct gi, sl_of (show 2 ≤ 1000000 by decide), fun L nL => ?_⟩
          have z1 := same_new nL (o := HO.lst [V.str "turn", V.str (ctS m)])
          refine ⟨D, L, _, [V.str "turn", V.str (ctS m)], rfl, rfl, z1 _ _ hD2, upd_same, sl_of (by simp only [List.length_map, List.length_cons, List.length_nil]; omega), ?_⟩
          refine ⟨_, rfl, e, _, 0, _, rfl, rfl, tp_t ((Same.tp z1).trans (tp_lst (z1 _ _ hD2))) ht, rfl, rfl, _, rfl, iteN v_tr ?_⟩
          refine ⟨gs ++ [[("turn" : Str)], [ctS m]], _, _, rfl, same_mut (s2.trans z1) nD, ?_, fun g hg => ?_, ?_, by rw [List.length_append]; show _ + 2 ≤ _; omega⟩
          · rw [upd_same, two]
          · rcases List.mem_append.mp hg with h | h
            · exact hne g h
            · rcases List.mem_cons.mp h with rfl | h
              · simp
              · rw [List.mem_singleton.mp h]
                simp
          · rw [List.flatten_append, hfl, sn, tkI]
            rfl
        · rw [CtI] at gi
          have hdi := dpP_mem hm
          rw [dpI] at hdi
          have hci := cnP_mem hm
          rw [cnI] at hci
          have hmn : m.natAbs ≤ 10 ^ 30 := by omega
          refine ⟨_, rfl, .inl ⟨rfl, _, SqL.of hD2⟩, _, rfl, e, _, 0, _, rfl, rfl, ht, rfl, _, rfl, e, _, 1, _, rfl, rfl, ht, rfl, m, rfl, lg_ct hmn, sl_of (show 2 ≤ 1000000 by decide), fun L nL => ?_⟩
          have z1 := same_new nL (o := HO.lst [V.str "repeat", V.str (ctS m)])
          refine ⟨D, L, _, [V.str "repeat", V.str (ctS m)], rfl, rfl, z1 _ _ hD2, upd_same, sl_of (by simp only [List.length_map, List.length_cons, List.length_nil]; omega), ?_⟩
          have s3 : Same H (upd (upd H2 L (HO.lst [V.str "repeat", V.str (ctS m)])) D (HO.lst ((gs.map jn).map V.str ++ [V.str "repeat", V.str (ctS m)]))) := same_mut (s2.trans z1) nD
          have hD3 : (upd (upd H2 L (HO.lst [V.str "repeat", V.str (ctS m)])) D (HO.lst ((gs.map jn).map V.str ++ [V.str "repeat", V.str (ctS m)]))) D = some (.lst (((gs ++ [[("repeat" : Str)], [ctS m]]).map jn).map V.str)) := by rw [upd_same, two]
          have ht3 := same_t s3 ht0
          have hy3 := hy0.same s3
          refine ⟨_, rfl, e, _, 0, _, rfl, rfl, ht3, rfl, rfl, _, rfl, iteS rfl ?_⟩
          have hgs : (gs ++ [[("repeat" : Str)], [ctS m], ([("[" : Str)] ++ (tkP bb ++ [("]" : Str)]))]).flatten = tkP (b.take (j + 1)) := by
            rw [List.flatten_append, hfl, sn, tkI]
            simp
          refine ⟨_, rfl, e, _, 2, _, rfl, rfl, ht3, rfl, _, bb, rfl, hy3, by omega, by omega, gi.2.2, by omega, fun H5 s5 => ?_⟩
          have hD5 := s5 _ _ hD3
          refine ⟨_, rfl, .inl ⟨rfl, _, SqL.of hD5⟩, fun v4 H4 => v4 = V.str (jn ([("[" : Str)] ++ (tkP bb ++ [("]" : Str)]))) ∧ Same H5 H4, ?_, ?_⟩
          · by_cases hb0 : bb = []
            · refine ⟨_, rfl, rfl, _, rfl, iteNS ?_ ⟨?_, Same.refl _⟩⟩
              · rw [hb0]
                show V.str (jn (tkP [])) = _
                rw [tkP_nil, jn_nil]
                rfl
              · rw [hb0, jn_empty]
            · have tb : tkP bb ≠ [] := fun z => by
                cases bb with
                | nil => exact hb0 rfl
                | cons i r =>
                  rw [tkP_cons] at z
                  have := (List.append_eq_nil_iff.mp z).1
                  cases i <;> (rw [tkI] at this; cases this)
              have tx := tx_len gi.2.2
              have l2 : ("[ " : Str).length = 2 := by decide +kernel
              have l3 : (" ]" : Str).length = 2 := by decide +kernel
              have l4 : (("[ " : Str) ++ txP bb).length = 2 + (txP bb).length := by
                rw [TL.len_tl, TL.tl_append, List.length_append, ← TL.len_tl, ← TL.len_tl, l2]
              refine ⟨_, rfl, rfl, _, rfl, iteNN (fun z => ?_) ?_⟩
              · have := jn_ne tb (fun t ht => (tkP_free ht).2)
                exact this (by rw [show jn (tkP bb) = "" from V.str.inj z]; rfl)
              refine ⟨_, rfl, _, _, rfl, rfl, sl_of (by rw [l2]; omega), _, _, rfl, rfl, sl_of (by rw [l3, l4]; omega), ?_⟩
              exact ⟨congrArg V.str (jn_inner hb0).symm, Same.refl _⟩
          · rintro v4 H4 ⟨rfl, s4⟩
            refine ⟨D, _, _, rfl, rfl, s4 _ _ hD5, sl_lt (by simp only [List.length_append, List.length_map, List.length_cons, List.length_nil]; omega), ?_⟩
            refine ⟨gs ++ [[("repeat" : Str)], [ctS m], ([("[" : Str)] ++ (tkP bb ++ [("]" : Str)]))], _, _, rfl, same_mut (s3.trans (s5.trans s4)) nD, ?_, fun g hg => ?_, hgs, by rw [List.length_append]; show _ + 3 ≤ _; omega⟩
            · rw [upd_same, List.map_append, List.map_append, List.map_append, List.map_append, List.append_assoc]
              rfl
            · rcases List.mem_append.mp hg with h | h
              · exact hne g h
              · rcases List.mem_cons.mp h with rfl | h
                · simp
                · rcases List.mem_cons.mp h with rfl | h
                  · simp
                  · rw [List.mem_singleton.mp h]
                    simp
      · rintro σ H2 ⟨gs, y, y2, rfl, s2, hD2, hne, hfl, hgl⟩
        rw [hI.len, List.take_length] at hfl
        have tkl := tkP_len hg
        have h1 := piece_len (gs := gs)
        have h2 := sum_le (fun t : Str => t.length + 1) 33 (l := gs.flatten) fun t ht => by
          rw [hfl] at ht
          have := tkl.2 t ht
          omega
        have h3 : gs.flatten.length ≤ 4 * cnP b := by rw [hfl]; exact tkl.1
        refine ⟨⟨_, rfl⟩, _, rfl, " ", D, gs.map jn, rfl, rfl, .inl (SqL.of hD2), ?_, ?_⟩
        · rw [word1, List.length_map]
          have := piece_few hne
          have : gs.flatten.length * 33 ≤ 4 * cnP b * 33 := Nat.mul_le_mul_right _ h3
          omega
        · have e9 : Txt.join " " (gs.map jn) = txP b := (jn_groups hne).trans (congrArg jn hfl)
          rw [e9]
          exact q _ s2
    · refine ⟨_, (pss_cons (ps_set (i := 1) nd rfl (.inl rfl) (pe_lst pa_nil))
    (pss_cons (ps_for PassesOwn.never rfl (pi_tup (pv 0)) (pg_name (i := 2) nd rfl (.inl rfl))
      (pss_cons (ps_expr (pe_bm PySem.F.plainAttrs_list PySem.F.slot_list_extend PySem.F.type_list_extend mt_extend (pv 1) (pa_cons (pe_lst (pa_cons (pe_ix ix_tup (pv 2) pe_int (fun _ _ => rfl)) (pa_cons (pe_callTy call_str_int (by rfl) B.str (by decide +kernel) (pa_cons (pe_ix ix_tup (pv 2) pe_int (fun _ _ => rfl)) pa_nil)) pa_nil))) pa_nil)))
    (pss_one (ps_if (pt_cmpR op_eq (pe_ix ix_tup (pv 2) pe_int (fun _ _ => rfl)) pe_str (nomark _))
      (pss_cons (ps_set (i := 3) nd rfl (.inl rfl) (pe_c C__law_program_text hr (by omega) (by rfl) (pa_cons (pe_ix ix_tup (pv 2) pe_int (fun _ _ => rfl)) pa_nil)))
    (pss_one (ps_expr (pe_bm PySem.F.plainAttrs_list PySem.F.slot_list_append PySem.F.type_list_append mt_append (pv 1) (pa_cons (pe_cut (pe_ifExp (pt_cmpR op_ne (pv 3) pe_str (nomark _)) (pe_op op_add_str (pe_op op_add_str pe_str (pv 3)) pe_str) pe_str)) pa_nil)))))
      pss_nil))))
    (pss_one (ps_ret (pe_join pe_str (pv 1)))))), ?_⟩
      refine ⟨Nat.zero_le _, fun D nD => ?_⟩
      have s1 := same_new nD (o := HO.lst [])
      refine ⟨_, rfl, a, rfl, ⟨_, same_t s1 hs⟩, for_tup (K := K) (a := a) (xs := xs) (fun j σ H2 => ∃ (gs : List (List Str)) (y y2 : Option V), σ = [some (.ref a), some (.ref D), y, y2] ∧ Same H H2 ∧ H2 D = some (.lst ((gs.map jn).map V.str)) ∧ (∀ g ∈ gs, g ≠ []) ∧ gs.flatten = tkP (b.take j) ∧ gs.length ≤ 3 * j) ⟨[], none, none, rfl, s1, upd_same, fun g h => absurd h List.not_mem_nil, by rw [List.take_zero, tkP_nil]; rfl, Nat.zero_le _⟩ ?_ ?_ ?_⟩
      · rintro j σ H2 _ ⟨gs, y, y2, _, s2, _⟩
        exact same_t s2 hs
      · rintro j x σ H2 hj ⟨gs, y, y2, rfl, s2, hD2, hne, hfl, hgl⟩
        obtain ⟨i, hi, hx0⟩ := hI.get hj
        have hm := List.mem_of_getElem? hi
        have hjl : j < b.length := (List.getElem?_eq_some_iff.mp hi).1
        have gi := CtP_mem hg hm
        have sn := tkP_snoc hi
        have two : ∀ (wd : Str) (c : Int), (gs.map jn).map V.str ++ [V.str wd, V.str (ctS c)] = (((gs ++ [[wd], [ctS c]]).map jn).map V.str) := fun wd c => by
          rw [List.map_append, List.map_append]
          show _ = _ ++ [V.str (jn [wd]), V.str (jn [ctS c])]
          rw [jn_one, jn_one]
        rcases hx0.inv with ⟨e, m, rfl, ht0, rfl⟩ | ⟨e, m, rfl, ht0, rfl⟩ | ⟨e, m, y', bb, rfl, ht0, hy0, rfl⟩
        all_goals have ht := same_t s2 ht0
        · rw [CtI] at gi
          refine ⟨_, rfl, .inl ⟨rfl, _, SqL.of hD2⟩, _, rfl, e, _, 0, _, rfl, rfl, ht, rfl, _, rfl, e, _, 1, _, rfl, rfl, ht, rfl, m, rfl, lg_ct gi, sl_of (show 2 ≤ 1000000 by decide), fun L nL => ?_⟩
          have z1 := same_new nL (o := HO.lst [V.str "step", V.str (ctS m)])
          refine ⟨D, L, _, [V.str "step", V.str (ctS m)], rfl, rfl, z1 _ _ hD2, upd_same, sl_of (by simp only [List.length_map, List.length_cons, List.length_nil]; omega), ?_⟩
          refine ⟨_, rfl, e, _, 0, _, rfl, rfl, tp_t ((Same.tp z1).trans (tp_lst (z1 _ _ hD2))) ht, rfl, rfl, _, rfl, iteN v_sr ?_⟩
          refine ⟨gs ++ [[("step" : Str)], [ctS m]], _, _, rfl, same_mut (s2.trans z1) nD, ?_, fun g hg => ?_, ?_, by rw [List.length_append]; show _ + 2 ≤ _; omega⟩
          · rw [upd_same, two]
          · rcases List.mem_append.mp hg with h | h
            · exact hne g h
            · rcases List.mem_cons.mp h with rfl | h
              · simp
              · rw [List.mem_singleton.mp h]
                simp
          · rw [List.flatten_append, hfl, sn, tkI]
            rfl
        · rw [CtI] at gi
          refine ⟨_, rfl, .inl ⟨rfl, _, SqL.of hD2⟩, _, rfl, e, _, 0, _, rfl, rfl, ht, rfl, _, rfl, e, _, 1, _, rfl, rfl, ht, rfl, m, rfl, lg_ct gi, sl_of (show 2 ≤ 1000000 by decide), fun L nL => ?_⟩
          have z1 := same_new nL (o := HO.lst [V.str "turn", V.str (ctS m)])
          refine ⟨D, L, _, [V.str "turn", V.str (ctS m)], rfl, rfl, z1 _ _ hD2, upd_same, sl_of (by simp only [List.length_map, List.length_cons, List.length_nil]; omega), ?_⟩
          refine ⟨_, rfl, e, _, 0, _, rfl, rfl, tp_t ((Same.tp z1).trans (tp_lst (z1 _ _ hD2))) ht, rfl, rfl, _, rfl, iteN v_tr ?_⟩
          refine ⟨gs ++ [[("turn" : Str)], [ctS m]], _, _, rfl, same_mut (s2.trans z1) nD, ?_, fun g hg => ?_, ?_, by rw [List.length_append]; show _ + 2 ≤ _; omega⟩
          · rw [upd_same, two]
          · rcases List.mem_append.mp hg with h | h
            · exact hne g h
            · rcases List.mem_cons.mp h with rfl | h
              · simp
              · rw [List.mem_singleton.mp h]
                simp
          · rw [List.flatten_append, hfl, sn, tkI]
            rfl
        · rw [CtI] at gi
          have hdi := dpP_mem hm
          rw [dpI] at hdi
          have hci := cnP_mem hm
          rw [cnI] at hci
          have hmn : m.natAbs ≤ 10 ^ 30 := by omega
          refine ⟨_, rfl, .inl ⟨rfl, _, SqL.of hD2⟩, _, rfl, e, _, 0, _, rfl, rfl, ht, rfl, _, rfl, e, _, 1, _, rfl, rfl, ht, rfl, m, rfl, lg_ct hmn, sl_of (show 2 ≤ 1000000 by decide), fun L nL => ?_⟩
          have z1 := same_new nL (o := HO.lst [V.str "repeat", V.str (ctS m)])
          refine ⟨D, L, _, [V.str "repeat", V.str (ctS m)], rfl, rfl, z1 _ _ hD2, upd_same, sl_of (by simp only [List.length_map, List.length_cons, List.length_nil]; omega), ?_⟩
          have s3 : Same H (upd (upd H2 L (HO.lst [V.str "repeat", V.str (ctS m)])) D (HO.lst ((gs.map jn).map V.str ++ [V.str "repeat", V.str (ctS m)]))) := same_mut (s2.trans z1) nD
          have hD3 : (upd (upd H2 L (HO.lst [V.str "repeat", V.str (ctS m)])) D (HO.lst ((gs.map jn).map V.str ++ [V.str "repeat", V.str (ctS m)]))) D = some (.lst (((gs ++ [[("repeat" : Str)], [ctS m]]).map jn).map V.str)) := by rw [upd_same, two]
          have ht3 := same_t s3 ht0
          have hy3 := hy0.same s3
          refine ⟨_, rfl, e, _, 0, _, rfl, rfl, ht3, rfl, rfl, _, rfl, iteS rfl ?_⟩
          have hgs : (gs ++ [[("repeat" : Str)], [ctS m], ([("[" : Str)] ++ (tkP bb ++ [("]" : Str)]))]).flatten = tkP (b.take (j + 1)) := by
            rw [List.flatten_append, hfl, sn, tkI]
            simp
          refine ⟨_, rfl, e, _, 2, _, rfl, rfl, ht3, rfl, _, bb, rfl, hy3, by omega, by omega, gi.2.2, by omega, fun H5 s5 => ?_⟩
          have hD5 := s5 _ _ hD3
          refine ⟨_, rfl, .inl ⟨rfl, _, SqL.of hD5⟩, fun v4 H4 => v4 = V.str (jn ([("[" : Str)] ++ (tkP bb ++ [("]" : Str)]))) ∧ Same H5 H4, ?_, ?_⟩
          · by_cases hb0 : bb = []
            · refine ⟨_, rfl, rfl, _, rfl, iteNS ?_ ⟨?_, Same.refl _⟩⟩
              · rw [hb0]
                show V.str (jn (tkP [])) = _
                rw [tkP_nil, jn_nil]
                rfl
              · rw [hb0, jn_empty]
            · have tb : tkP bb ≠ [] := fun z => by
                cases bb with
                | nil => exact hb0 rfl
                | cons i r =>
                  rw [tkP_cons] at z
                  have := (List.append_eq_nil_iff.mp z).1
                  cases i <;> (rw [tkI] at this; cases this)
              have tx := tx_len gi.2.2
              have l2 : ("[ " : Str).length = 2 := by decide +kernel
              have l3 : (" ]" : Str).length = 2 := by decide +kernel
              have l4 : (("[ " : Str) ++ txP bb).length = 2 + (txP bb).length := by
                rw [TL.len_tl, TL.tl_append, List.length_append, ← TL.len_tl, ← TL.len_tl, l2]
              refine ⟨_, rfl, rfl, _, rfl, iteNN (fun z => ?_) ?_⟩
              · have := jn_ne tb (fun t ht => (tkP_free ht).2)
                exact this (by rw [show jn (tkP bb) = "" from V.str.inj z]; rfl)
              refine ⟨_, rfl, _, _, rfl, rfl, sl_of (by rw [l2]; omega), _, _, rfl, rfl, sl_of (by rw [l3, l4]; omega), ?_⟩
              exact ⟨congrArg V.str (jn_inner hb0).symm, Same.refl _⟩
          · rintro v4 H4 ⟨rfl, s4⟩
            refine ⟨D, _, _, rfl, rfl, s4 _ _ hD5, sl_lt (by simp only [List.length_append, List.length_map, List.length_cons, List.length_nil]; omega), ?_⟩
            refine ⟨gs ++ [[("repeat" : Str)], [ctS m], ([("[" : Str)] ++ (tkP bb ++ [("]" : Str)]))], _, _, rfl, same_mut (s3.trans (s5.trans s4)) nD, ?_, fun g hg => ?_, hgs, by rw [List.length_append]; show _ + 3 ≤ _; omega⟩
            · rw [upd_same, List.map_append, List.map_append, List.map_append, List.map_append, List.append_assoc]
              rfl
            · rcases List.mem_append.mp hg with h | h
              · exact hne g h
              · rcases List.mem_cons.mp h with rfl | h
                · simp
                · rcases List.mem_cons.mp h with rfl | h
                  · simp
                  · rw [List.mem_singleton.mp h]
                    simp
      · rintro σ H2 ⟨gs, y, y2, rfl, s2, hD2, hne, hfl, hgl⟩
        rw [hI.len, List.take_length] at hfl
        have tkl := tkP_len hg
        have h1 := piece_len (gs := gs)
        have h2 := sum_le (fun t : Str => t.length + 1) 33 (l := gs.flatten) fun t ht => by
          rw [hfl] at ht
          have := tkl.2 t ht
          omega
        have h3 : gs.flatten.length ≤ 4 * cnP b := by rw [hfl]; exact tkl.1
        refine ⟨⟨_, rfl⟩, _, rfl, " ", D, gs.map jn, rfl, rfl, .inl (SqL.of hD2), ?_, ?_⟩
        · rw [word1, List.length_map]
          have := piece_few hne
          have : gs.flatten.length * 33 ≤ 4 * cnP b * 33 := Nat.mul_le_mul_right _ h3
          omega
        · have e9 : Txt.join " " (gs.map jn) = txP b := (jn_groups hne).trans (congrArg jn hfl)
          rw [e9]
          exact q _ s2
theorem sc__law_road_text : FnScope ["_law_prime_here", "_law_actions", "_law_lines", "_law_word_here", "_law_name", "_law_value", "_law_last"] ["_law_prime_here", "_law_actions"] (defScope s__law_road_text) := ⟨rfl, rfl, rfl, by decide +kernel, rfl, by decide +kernel, by decide +kernel⟩
theorem ok__law_road_text {f : Addr} {fd : FuncData} (F : Fun K "_law_road_text" "_law_road_text" s__law_road_text f fd) (B : Blt mg) (C__law_program_text : Cal P w K mg base (3 + 0) "_law_program_text" (sp__law_text K 3)) : FnOk P w K mg base CX0 5 f fd ["_law_prime_here", "_law_actions"] (sp__law_road_text K) := by
  refine F.ok sc__law_road_text (fun vs H Q E h => ?_) (fun cdv A0 outer s H vs Q E hr h => ?_)
  · obtain ⟨q, A, xs, as, rfl, _⟩ := h
    rfl
  · obtain ⟨q, A, xs, as, rfl, hA, hX, q0, q97, ok, few, k⟩ := h
    have nd := sc__law_road_text.nd
    have big : 1000000 ≤ sizeLine := by decide +kernel
    have hq : q.natAbs ≤ 10 ^ 30 := Nat.le_trans (show q.natAbs ≤ 97 by omega) (by decide +kernel)
    have l1 : ("prime " : Str).length = 6 := by decide +kernel
    have lq := ct_short hq
    have lx := hX.len
    have hqq : (prL q).length ≤ 40 := prL_len hq
    refine ⟨_, (pss_cons (ps_set (i := 2) nd rfl (.inl rfl) (pe_lst (pa_cons (pe_op op_add_str pe_str (pe_callTy call_str_int (by rfl) B.str (by decide +kernel) (pa_cons (pv 0) pa_nil))) pa_nil)))
    (pss_cons (ps_for PassesOwn.never rfl (pi_list (pv 1)) (pg_tup rfl (pgs_cons (pg_name (i := 3) nd rfl (.inl rfl)) (pgs_cons (pg_name (i := 4) nd rfl (.inl rfl)) (pgs_cons (pg_name (i := 5) nd rfl (.inl rfl)) pgs_nil))))
      (pss_cons (ps_set (i := 6) nd rfl (.inl rfl) (pe_ifExp (pt_cmpR op_eq (pv 3) pe_str (nomark _)) (pe_callTy call_str_int (by rfl) B.str (by decide +kernel) (pa_cons (pv 5) pa_nil)) (pe_c C__law_program_text hr (by decide) (by rfl) (pa_cons (pv 5) pa_nil))))
    (pss_one (ps_expr (pe_bm PySem.F.plainAttrs_list PySem.F.slot_list_append PySem.F.type_list_append mt_append (pv 2) (pa_cons (pe_join pe_str (pe_op op_cat (pe_lst (pa_cons (pv 3) (pa_cons (pv 4) pa_nil))) (pe_cut (pe_ifExp (pt_cmpR op_ne (pv 6) pe_str (nomark _)) (pe_lst (pa_cons (pv 6) pa_nil)) (pe_lst pa_nil))))) pa_nil))))))
    (pss_one (ps_ret (pe_join pe_str (pv 2)))))), ?_⟩
    refine ⟨_, rfl, q, rfl, lg_ct hq, _, _, rfl, rfl, by rw [l1]; exact Nat.le_trans (Nat.add_le_add_left lq 6) (by omega), sl_of (show 1 ≤ 1000000 by decide), fun D nD => ?_⟩
    have s1 := same_new nD (o := HO.lst [V.str ("prime " ++ ctS q)])
    refine ⟨_, rfl, A, rfl, ⟨_, same_l s1 hA⟩, for_list (K := K) (a := A) (xs := xs) (fun j σ H2 => ∃ (y3 y4 y5 y6 : Option V), σ = [some (.int q), some (.ref A), some (.ref D), y3, y4, y5, y6] ∧ Same H H2 ∧ H2 D = some (.lst (V.str (prL q) :: ((as.take j).map lnA).map V.str))) ⟨none, none, none, none, rfl, s1, by rw [← prL_plus]; exact upd_same⟩ ?_ ?_ ?_⟩
    · rintro j σ H2 _ ⟨y3, y4, y5, y6, _, s2, _⟩
      exact same_l s2 hA
    · rintro j x σ H2 hj ⟨y3, y4, y5, y6, rfl, s2, hD⟩
      obtain ⟨a, ha, hv⟩ := ActVs.get hX hj
      have hv2 := hv.same s2
      have oka := ok a (List.mem_of_getElem? ha)
      have jl : j < as.length := (List.getElem?_eq_some_iff.mp ha).1
      have w1 : (" " : Str).length = 1 := by decide +kernel
      -- the line, from its parts
      have fin : ∀ (H3 : Hp), Same H2 H3 → H3 D = some (.lst (V.str (prL q) :: ((as.take j).map lnA).map V.str)) ∧ (V.str (prL q) :: ((as.take j).map lnA).map V.str).length < sizeLine ∧ Same H (upd H3 D (.lst (V.str (prL q) :: ((as.take j).map lnA).map V.str ++ [V.str (lnA a)]))) ∧ (upd H3 D (.lst (V.str (prL q) :: ((as.take j).map lnA).map V.str ++ [V.str (lnA a)]))) D = some (.lst (V.str (prL q) :: ((as.take (j + 1)).map lnA).map V.str)) := fun H3 s3 => by
        refine ⟨s3 _ _ hD, sl_lt (by simp only [List.length_cons, List.length_map, List.length_take]; omega), same_mut (s2.trans s3) nD, ?_⟩
        rw [upd_same, take_snoc ha, List.map_append, List.map_append]
        rfl
      cases a with
      | enter n pl =>
        obtain ⟨t, rfl, ht⟩ := hv2
        have nl := (name_tl oka.1).2.2
        have cl := ct_short oka.2
        refine ⟨t, _, rfl, ht, rfl, ?_⟩
        refine ⟨_, _, rfl, _, _, rfl, _, _, rfl, rfl, ?_⟩
        refine ⟨_, rfl, rfl, _, rfl, iteS rfl ?_⟩
        refine ⟨_, rfl, pl, rfl, lg_ct oka.2, ?_⟩
        refine ⟨_, rfl, .inl ⟨rfl, _, SqL.of hD⟩, ⟨_, rfl⟩, _, rfl, _, rfl, sl_of (show 2 ≤ 1000000 by decide), fun L nL => ?_⟩
        have sL := same_new nL (o := HO.lst [V.str "enter", V.str n])
        have hL : (upd H2 L (.lst [V.str "enter", V.str n])) L = some (.lst [V.str "enter", V.str n]) := upd_same
        refine ⟨fun v H4 => ∃ M, v = .ref M ∧ Same (upd H2 L (.lst [V.str "enter", V.str n])) H4 ∧ H4 M = some (.lst [V.str (ctS pl)]), ?_, ?_⟩
        · refine ⟨_, rfl, rfl, _, rfl, iteNN (fun z => ct_some pl (V.str.inj z)) ?_⟩
          exact ⟨_, rfl, sl_of (show 1 ≤ 1000000 by decide), fun M nM => ⟨M, rfl, same_new nM, upd_same⟩⟩
        rintro v H4 ⟨M, rfl, s4, hM⟩
        refine ⟨L, M, _, _, rfl, rfl, s4 _ _ hL, hM, by show 2 + 1 ≤ _; omega, fun N nN => ?_⟩
        refine ⟨" ", N, [("enter" : Str), n, ctS pl], rfl, rfl, .inl (SqL.of upd_same), ?_, ?_⟩
        · have w5 : ("enter" : Str).length = 5 := by decide +kernel
          rw [w1]
          show ("enter" : Str).length + (n.length + ((ctS pl).length + 0)) + 3 * 1 ≤ _
          omega
        obtain ⟨f1, f2, f3, f4⟩ := fin _ (sL.trans (s4.trans (same_new nN)))
        exact ⟨D, _, _, rfl, rfl, f1, f2, _, _, _, _, rfl, f3, f4⟩
      | run n d b =>
        obtain ⟨t, u, rfl, ht, hd, hp⟩ := hv2
        have nl := oka.name
        have po := oka.2.1
        refine ⟨t, _, rfl, ht, rfl, ?_⟩
        refine ⟨_, _, rfl, _, _, rfl, _, _, rfl, rfl, ?_⟩
        refine ⟨_, rfl, rfl, _, rfl, iteN (by decide +kernel) ?_⟩
        have cn := po.cn
        have tn := tx_len po.ct
        refine ⟨_, rfl, u, b, rfl, ⟨d, hd, hp⟩, po.dp, by decide, po.ct, Nat.le_trans cn (by decide), fun H3 s3 => ?_⟩
        refine ⟨_, rfl, .inl ⟨rfl, _, SqL.of (s3 _ _ hD)⟩, ⟨_, rfl⟩, _, rfl, _, rfl, sl_of (show 2 ≤ 1000000 by decide), fun L nL => ?_⟩
        have sL := same_new nL (o := HO.lst [V.str "run", V.str n])
        have hL : (upd H3 L (.lst [V.str "run", V.str n])) L = some (.lst [V.str "run", V.str n]) := upd_same
        refine ⟨fun v H4 => ∃ M us, v = .ref M ∧ Same (upd H3 L (.lst [V.str "run", V.str n])) H4 ∧ H4 M = some (.lst (us.map V.str)) ∧ us.length ≤ 1 ∧ (us.map fun t => t.length).sum ≤ 13200 ∧ jn ([("run" : Str), n] ++ us) = lnA (.run n d b), ?_, ?_⟩
        · by_cases hb0 : b = []
          · refine ⟨_, rfl, rfl, _, rfl, iteNS ?_ ?_⟩
            · rw [hb0]
              show V.str (jn (tkP [])) = _
              rw [tkP_nil, jn_nil]
              rfl
            refine ⟨Nat.zero_le _, fun M nM => ⟨M, [], rfl, same_new nM, upd_same, Nat.zero_le _, Nat.zero_le _, ?_⟩⟩
            rw [hb0]
            show jn ([("run" : Str), n] ++ []) = jn ([("run" : Str), n] ++ tkP [])
            rw [tkP_nil]
          · have ne : tkP b ≠ [] := fun z => hb0 (tkP_none.mp z)
            refine ⟨_, rfl, rfl, _, rfl, iteNN (fun z => ?_) ?_⟩
            · have := jn_ne ne (fun t ht => (tkP_free ht).2)
              exact this (by rw [show jn (tkP b) = "" from V.str.inj z]; rfl)
            refine ⟨_, rfl, sl_of (show 1 ≤ 1000000 by decide), fun M nM => ⟨M, [txP b], rfl, same_new nM, upd_same, Nat.le_refl _, ?_, ln_run ne⟩⟩
            show (txP b).length + 0 ≤ _
            omega
        rintro v H4 ⟨M, us, rfl, s4, hM, u1, u2, ej⟩
        refine ⟨L, M, _, _, rfl, rfl, s4 _ _ hL, hM, by rw [List.length_map]; show 2 + _ ≤ _; omega, fun N nN => ?_⟩
        refine ⟨" ", N, [("run" : Str), n] ++ us, rfl, rfl, .inl (SqL.of upd_same), ?_, ?_⟩
        · have w3 : ("run" : Str).length = 3 := by decide +kernel
          rw [w1, List.map_append, List.sum_append, List.length_append]
          show ("run" : Str).length + (n.length + 0) + _ + (2 + _) * 1 ≤ _
          omega
        show _
        have ej2 : Txt.join " " ([("run" : Str), n] ++ us) = lnA (.run n d b) := ej
        rw [ej2]
        obtain ⟨f1, f2, f3, f4⟩ := fin _ (s3.trans (sL.trans (s4.trans (same_new nN))))
        exact ⟨D, _, _, rfl, rfl, f1, f2, _, _, _, _, rfl, f3, f4⟩
    · rintro σ H2 ⟨y3, y4, y5, y6, rfl, s2, hD⟩
      rw [lx, List.take_length] at hD
      have h2 := sum_le (fun t : Str => t.length) 14000 (l := as.map lnA) fun t ht => by
        obtain ⟨a, ha, rfl⟩ := List.mem_map.mp ht
        exact lnA_len (ok a ha)
      rw [List.length_map] at h2
      refine ⟨⟨_, rfl⟩, _, rfl, "\n", D, prL q :: as.map lnA, rfl, rfl, .inl (SqL.of hD), ?_, k _ s2⟩
      have w1 : ("\n" : Str).length = 1 := by decide +kernel
      rw [w1, List.length_cons, List.length_map, List.map_cons, List.sum_cons]
      omega
theorem sc__law_is_empty : FnScope ["_law_call"] ["_law_call"] (defScope s__law_is_empty) := ⟨rfl, rfl, rfl, by decide +kernel, rfl, by decide +kernel, by decide +kernel⟩
theorem pe_is_empty {X : Cx} {CN made pt : Addr} {tbs : List (Addr × Str)} {m : Nat} {ps : Arguments} {what : Expr} {ls : Scope} {tw : XK → TE} {q1 q2 q3 : Pos} (D : Df X.K X.mg "_law_is_empty" s__law_is_empty) (NL : X.mg "NothingLeft" = some (.ref CN)) (glob : Gl X "_law_is_empty") (W : Hands X tbs made pt) (room : Room (m + 2) X.A)
    (free : LamX.LamS X.env.scope ls) (plain : defaultsOf ps X.env = ([], [])) (none0 : ∀ (n : Str) (cells : List (Str × Addr)) (v1 v2 v3 : Value), bindArgs (PySem.W.kla_fn "<lambda>" n ps what ls cells v1 v2 v3) ⟨[], []⟩ = pure [])
    (inner : ∀ (A1 : Around) (envs : List Env) (sh : Shared) (G : Hp) (EE : XK) (l1 l2 : Addr), Room m (A1.deeper (LamX.lamEnv X ls sh.heap.objs.size l1 l2)) → PE (LamX.lamCx X A1 envs sh G EE ls l1 l2) what (tw EE)) :
    PE X (.Call (.Name "_law_is_empty" q1) [.Lambda ps what ls q2] [] q3) (LamX.tLam tbs (TLeft X.K CN) tw) :=
  pe_handed D glob W room (fun _ _ _ _ _ _ us hl => match us, hl with | [_], _ => rfl) sc__law_is_empty (.inl rfl) (fun g v => left_gives (e := "NothingLeft") rfl NL (by decide) fun f => rfl) free plain none0 inner
theorem sc_law : FnScope ["_law_script", "_law_pen_here", "_law_turn", "_law_prime_here", "_law_names", "_law_actions", "_law_road", "_law_far", "_law_action", "_law_taken", "_law_done", "_law_text", "_law_other", "_law_plain_own", "_law_twin", "_law_k", "_law_shorter", "_law_sign", "_law_word_here", "_law_name", "_law_value"] ["_law_script"] (defScope s_law) := ⟨rfl, rfl, rfl, by decide +kernel, rfl, by decide +kernel, by decide +kernel⟩
theorem law_ok {C CN : Addr} {f cc Pt : Addr} {fd : FuncData} (F : FunC K "law" s_law f fd cc) (TB : LamX.TabB base mg cc Pt) (B : Blt mg) (hb : Sys base) (C__law_pen : Cal P w K mg base 1 "_law_pen" (sp__law_pen K)) (C__law_draw : Cal P w K mg base 1 "_law_draw" sp__law_draw) (C__law_integer : Cal P w K mg base 2 "_law_integer" sp__law_integer) (C__law_prime : Cal P w K mg base 3 "_law_prime" sp__law_prime) (C__law_calls : Cal P w K mg base 4 "_law_calls" sp__law_calls) (C__law_history : Cal P w K mg base 6 "_law_history" (sp__law_historyD K)) (C__law_act : Cal P w K mg base 9 "_law_act" (sp__law_act K C)) (C__law_road_text : Cal P w K mg base 5 "_law_road_text" (sp__law_road_text K)) (C__law_plain_program : Cal P w K mg base (3 + 0) "_law_plain_program" (sp_with_lists K 3)) (C_save : Cal P w K mg base 6 "save" (sp_save K C)) (C_load : Cal P w K mg base 11 "load" (sp_load K C))
    (T : ClRo K mg C) (Z : EqC K C) (DE : Df K mg "_law_is_empty" s__law_is_empty) (NZ : LeftF P w K mg base CN) (NX : PySem.W.exmOne K (.ref CN) (.ref CN) = some true) (MK_Road : MkF P w K mg base "Road" C 1 (sp_road C)) (M_eq : MetC CX0 P w K mg base C 5 "__eq__" (sp_road_eq K C)) (M_undo : MetC CX0 P w K mg base C 5 "undo" (sp_undo K C)) (M_undoN : MetC (L2.CX P w) P w K mg base C 5 "undo" (sp_undoN K C CN)) (M_redoN : MetC (L2.CX P w) P w K mg base C 5 "redo" (sp_redoN K C CN)) (M_actions : MetC CX0 P w K mg base C 5 "actions" (sp_actions K C)) : Kept P w K mg base f fd ["_law_script"] (sp_lawT Pt K) := by
  refine kept_ofC (k := 12) F sc_law (fun vs H Q E h => ?_) ⟨rfl, by decide, by decide⟩ (fun s H vs Q E hr h => ?_)
  · obtain ⟨a, ns, rfl, _⟩ := h
    rfl
  · obtain ⟨a, ns, rfl, hP, hS, hlen, k⟩ := h
    have nd := sc_law.nd
    have hg : (callerA.deeper (envOfC "law" (defScope s_law) s.heap.objs.size f (.ref cc))).guards = some [] := rfl
    have hu := hu_of hr
    have hu2 := hr.units
    have hu0 : (callerA.deeper (envOfC "law" (defScope s_law) s.heap.objs.size f (.ref cc))).units + 100 < cLine := by
      have := hr.un
      omega
    have hTq : ∀ e ∈ [(Pt, ("law.<locals>." : Str) ++ "<lambda>")], e.1 = Pt → e.2 = ("law.<locals>." : Str) ++ "<lambda>" := fun e he _ => by
      rw [List.mem_singleton.mp he]
    refine ⟨_, (pss_cons (ps_set (i := 1) nd rfl (.inl rfl) (pe_c C__law_pen hr (by decide) (by rfl) (pa_cons (pv 0) pa_nil)))
    (pss_cons (ps_for PassesOwn.never rfl (pi_range1 (by rfl) B.range (pa_cons pe_int pa_nil)) (pg_name (i := 2) nd rfl (.inl rfl))
      (pss_cons (ps_asg (pe_tup (pa_cons (pe_c C__law_prime hr (by decide) (by rfl) (pa_cons (pv 1) pa_nil)) (pa_cons (pe_c C__law_calls hr (by decide) (by rfl) (pa_cons (pv 1) (pa_cons pe_int pa_nil))) pa_nil))) (pg_tup rfl (pgs_cons (pg_name (i := 3) nd rfl (.inl rfl)) (pgs_cons (pg_name (i := 4) nd rfl (.inr rfl)) pgs_nil))))
    (pss_cons (ps_cut (ps_asg (pe_tup (pa_cons (pe_c C__law_history hr (by decide) (by rfl) (pa_cons (pv 1) (pa_cons (pv 4) (pa_cons pe_int (pa_cons pe_bl pa_nil))))) (pa_cons (pe_mk_ MK_Road hr (by decide) (by rfl) (pa_cons (pv 3) pa_nil)) pa_nil))) (pg_tup rfl (pgs_cons (pg_name (i := 5) nd rfl (.inl rfl)) (pgs_cons (pg_name (i := 6) nd rfl (.inr rfl)) pgs_nil)))))
    (pss_cons (ps_cut (ps_set (i := 7) nd rfl (.inl rfl) (pe_tup (pa_cons pe_str (pa_cons (pe_ix ix_list (pe_lc (own := [("_law_sign", 17)]) (by rfl) nd (pi_str pe_str) (blkOk_by (N := ["_law_script", "_law_pen_here", "_law_turn", "_law_prime_here", "_law_names", "_law_actions", "_law_road", "_law_far", "_law_action", "_law_taken", "_law_done", "_law_text", "_law_other", "_law_plain_own", "_law_twin", "_law_k", "_law_shorter", "_law_sign", "_law_word_here", "_law_name", "_law_value"]) (sc := defScope s_law) (own := [("_law_sign", 17)]) (by decide +kernel)) (fun _ _ _ _ _ => (pg_name (i := 17) nd rfl (.inl rfl))) (fun _ _ _ _ _ => (pts_one (pt_cmpR (op_notInK K rfl) (pe_op op_mul_txt (pv 17) pe_int) (pv 4) rfl))) (fun _ _ _ _ _ => (pe_op op_mul_txt (pv 17) pe_int))) pe_int (fun _ _ => rfl)) (pa_cons (pe_c C__law_integer hr (by decide) (by rfl) (pa_cons (pv 1) (pa_cons (pe_op op_pow pe_int pe_int) pa_nil))) pa_nil))))))
    (pss_cons (ps_cut (ps_for PassesOwn.never rfl (pi_list (pe_op op_cat (pv 5) (pe_lst (pa_cons (pv 7) (pa_cons (pe_tup (pa_cons pe_str (pa_cons (pe_ix ix_tup (pv 7) pe_int (fun _ _ => rfl)) (pa_cons (pe_lst pa_nil) pa_nil)))) pa_nil))))) (pg_name (i := 8) nd rfl (.inl rfl))
      (pss_one (ps_expr (pe_c C__law_act hr (by decide) (by rfl) (pa_cons (pv 6) (pa_cons (pv 8) pa_nil)))))))
    (pss_cons (ps_cut (ps_setLc (i := 9) (own := [("_law_k", 15)]) (by rfl) nd rfl rfl (sw_true rfl rfl rfl (by decide +kernel)) (pi_range1 (by rfl) B.range (pa_cons (pe_c C__law_draw hr (by decide) (by rfl) (pa_cons (pv 1) (pa_cons pe_int pa_nil))) pa_nil)) (blkOk_by (N := ["_law_script", "_law_pen_here", "_law_turn", "_law_prime_here", "_law_names", "_law_actions", "_law_road", "_law_far", "_law_action", "_law_taken", "_law_done", "_law_text", "_law_other", "_law_plain_own", "_law_twin", "_law_k", "_law_shorter", "_law_sign", "_law_word_here", "_law_name", "_law_value"]) (sc := defScope s_law) (own := [("_law_k", 15)]) (by decide +kernel)) (fun _ _ _ _ _ => (pg_name (i := 15) nd rfl (.inl rfl))) (fun _ _ _ _ _ => pts_nil) (fun _ _ _ _ _ => (pe_meth0 (pv 6) T.cl M_undo.hm M_undo.ok (hr.mono (by decide)) M_undo.b .nil (E := E0) pass0))))
    (pss_cons (ps_cut (ps_set (i := 10) nd rfl (.inl rfl) (pe_meth0 (pv 6) T.cl M_actions.hm M_actions.ok (hr.mono (by decide)) M_actions.b .nil (E := E0) pass0)))
    (pss_cons (ps_cut (ps_set (i := 11) nd rfl (.inl rfl) (pe_c C__law_road_text hr (by decide) (by rfl) (pa_cons (pv 3) (pa_cons (pv 10) pa_nil)))))
    (pss_cons (ps_cut (ps_if (PW.pt (pw_or (pt_cmpR op_ne (pe_c C_save hr (by decide) (by rfl) (pa_cons (pv 6) pa_nil)) (pv 11) (nomark _)) (pw_or1 (pt_cmpR op_ne (pe_op op_add (pe_callB call_len_seq (by rfl) B.len (by decide +kernel) (pa_cons (pv 10) pa_nil)) (pe_callB call_len_seq (by rfl) B.len (by decide +kernel) (pa_cons (pv 9) pa_nil))) (pe_op op_add (pe_callB call_len_seq (by rfl) B.len (by decide +kernel) (pa_cons (pv 5) pa_nil)) pe_int) (nomark _)))))
      (pss_one (ps_ret pe_bl))
      pss_nil))
    (pss_cons (ps_cut (ps_set (i := 12) nd rfl (.inr rfl) (pe_c C_load hr (by decide) (by rfl) (pa_cons (pv 11) pa_nil))))
    (pss_cons (ps_cut (ps_if (PW.pt (pw_or (pt_not (pt_val (pe_callB (C8.call_isC Z.ic) (by rfl) B.isinstance (by decide +kernel) (pa_cons (pv 12) (pa_cons (pe_glob (v := .ref C) rfl T.gl rfl) pa_nil))))) (pw_or (pt_cmpR (op_neC Z M_eq pass0 (hr.mono (by decide))) (pv 12) (pv 6) (nomark _)) (pw_or1 (pt_cmpR op_ne (pe_c C_save hr (by decide) (by rfl) (pa_cons (pv 12) pa_nil)) (pv 11) (nomark _))))))
      (pss_one (ps_ret pe_bl))
      pss_nil))
    (pss_cons (ps_cut (ps_if (pt_not (pt_val (pe_is_empty (tbs := [(Pt, ("law.<locals>." : Str) ++ "<lambda>")]) (tw := fun EE => tMeth C "redo" (sp_redoN K C CN) [] EE (tVar 12) tNil) DE NZ.gl (by rfl) ⟨TB, rfl, List.mem_cons_self, hTq⟩ (hr.mono (by decide)) (LamX.lamS_by (by rfl)) rfl (fun _ _ _ _ _ => rfl) (fun A1 envs sh G EE l1 l2 rm => pe_meth0 (pe_var (i := 12) rfl (.inr (.inr rfl))) T.cl M_redoN.hm M_redoN.ok rm M_redoN.b .nil (passes_call (takes_of rfl rfl rfl rfl) fun _ _ _ _ z => z)))))
      (pss_one (ps_ret pe_bl))
      pss_nil))
    (pss_cons (ps_cut (ps_setLc (i := 13) (own := [("_law_word_here", 18), ("_law_name", 19), ("_law_value", 20)]) (g := gTup K 3 (gCons (gName 18) (gCons (gName 19) (gCons (gName 20) gNil)))) (by rfl) nd rfl rfl (sw_true rfl rfl rfl (by decide +kernel)) (pi_list (pv 10)) (blkOk_by (N := ["_law_script", "_law_pen_here", "_law_turn", "_law_prime_here", "_law_names", "_law_actions", "_law_road", "_law_far", "_law_action", "_law_taken", "_law_done", "_law_text", "_law_other", "_law_plain_own", "_law_twin", "_law_k", "_law_shorter", "_law_sign", "_law_word_here", "_law_name", "_law_value"]) (sc := defScope s_law) (own := [("_law_word_here", 18), ("_law_name", 19), ("_law_value", 20)]) (by decide +kernel)) (fun _ _ _ _ _ => (pg_tup rfl (pgs_cons (pg_name (i := 18) nd rfl (.inl rfl) (.inr rfl)) (pgs_cons (pg_name (i := 19) nd rfl (.inl rfl) (.inr rfl)) (pgs_cons (pg_name (i := 20) nd rfl (.inl rfl) (.inr rfl)) pgs_nil))))) (fun _ _ _ _ _ => pts_nil) (fun _ _ _ _ _ => (pe_tup (pa_cons (pv 18) (pa_cons (pv 19) (pa_cons (pe_ifExp (pt_cmpR op_eq (pv 18) pe_str (nomark _)) (pe_c C__law_plain_program hr (by decide) (by rfl) (pa_cons (pv 20) pa_nil)) (pv 20)) pa_nil)))))))
    (pss_cons (ps_cut (ps_if (pt_cmpR op_ne (pe_callB (call_reprX hg hu0) (by rfl) B.repr (by decide +kernel) (pa_cons (pe_meth0 (pv 12) T.cl M_actions.hm M_actions.ok (hr.mono (by decide)) M_actions.b .nil (E := E0) pass0) pa_nil)) (pe_callB (call_reprX hg hu0) (by rfl) B.repr (by decide +kernel) (pa_cons (pv 13) pa_nil)) (nomark _))
      (pss_one (ps_ret pe_bl))
      pss_nil))
    (pss_cons (ps_cut (ps_set (i := 14) nd rfl (.inl rfl) (pe_c C_load hr (by decide) (by rfl) (pa_cons (pv 11) pa_nil))))
    (pss_cons (ps_cut (ps_for PassesOwn.never rfl (pi_range1 (by rfl) B.range (pa_cons (pe_callB call_len_seq (by rfl) B.len (by decide +kernel) (pa_cons (pv 10) pa_nil)) pa_nil)) (pg_name (i := 15) nd rfl (.inl rfl))
      (pss_cons (ps_expr (pe_meth0 (pv 12) T.cl M_undo.hm M_undo.ok (hr.mono (by decide)) M_undo.b .nil (E := E0) pass0))
    (pss_cons (ps_set (i := 16) nd rfl (.inl rfl) (pe_c C__law_road_text hr (by decide) (by rfl) (pa_cons (pv 3) (pa_cons (pe_slice sl_list (pv 10) po_none (po_some (pe_op op_sub (pe_op op_sub (pe_callB call_len_seq (by rfl) B.len (by decide +kernel) (pa_cons (pv 10) pa_nil)) pe_int) (pv 15)))) pa_nil))))
    (pss_one (ps_if (PW.pt (pw_or (pt_cmpR op_ne (pe_c C_save hr (by decide) (by rfl) (pa_cons (pv 12) pa_nil)) (pv 16) (nomark _)) (pw_or (pt_cmpR (op_eqC M_eq pass0 (hr.mono (by decide))) (pv 12) (pv 6) (nomark _)) (pw_or1 (pt_cmpR op_ne (pe_c C_save hr (by decide) (by rfl) (pa_cons (pv 6) pa_nil)) (pv 11) (nomark _))))))
      (pss_one (ps_ret pe_bl))
      pss_nil))))))
    (pss_cons (ps_cut (ps_if (PW.pt (pw_or (pt_not (pt_val (pe_is_empty (tbs := [(Pt, ("law.<locals>." : Str) ++ "<lambda>")]) (tw := fun EE => tMeth C "undo" (sp_undoN K C CN) [] EE (tVar 12) tNil) DE NZ.gl (by rfl) ⟨TB, rfl, List.mem_cons_self, hTq⟩ (hr.mono (by decide)) (LamX.lamS_by (by rfl)) rfl (fun _ _ _ _ _ => rfl) (fun A1 envs sh G EE l1 l2 rm => pe_meth0 (pe_var (i := 12) rfl (.inr (.inr rfl))) T.cl M_undoN.hm M_undoN.ok rm M_undoN.b .nil (passes_call (takes_of rfl rfl rfl rfl) fun _ _ _ _ z => z))))) (pw_or1 (pt_cmpR (op_neC Z M_eq pass0 (hr.mono (by decide))) (pv 12) (pe_mk_ MK_Road hr (by decide) (by rfl) (pa_cons (pv 3) pa_nil)) (nomark _)))))
      (pss_one (ps_ret pe_bl))
      pss_nil))
    (pss_cons (ps_cut (ps_if (PW.pt (pw_or (pt_cmpR (op_neC Z M_eq pass0 (hr.mono (by decide))) (pv 14) (pv 6) (nomark _)) (pw_or (pt_cmpR op_ne (pe_c C_save hr (by decide) (by rfl) (pa_cons (pv 14) pa_nil)) (pv 11) (nomark _)) (pw_or1 (pt_cmpR (op_neC Z M_eq pass0 (hr.mono (by decide))) (pe_c C_load hr (by decide) (by rfl) (pa_cons (pv 11) pa_nil)) (pv 6) (nomark _))))))
      (pss_one (ps_ret pe_bl))
      pss_nil))
    (pss_one (ps_if (pt_cmpR op_ne (pe_c C_save hr (by decide) (by rfl) (pa_cons (pe_mk_ MK_Road hr (by decide) (by rfl) (pa_cons (pv 3) pa_nil)) pa_nil)) (pe_op op_add_str pe_str (pe_callTy call_str_int (by rfl) B.str (by decide +kernel) (pa_cons (pv 3) pa_nil))) (nomark _))
      (pss_one (ps_ret pe_bl))
      pss_nil))))))))))))))))))))
    (pss_one (ps_ret pe_bl)))), ?_⟩
    refine ⟨_, rfl, a, ns, rfl, hS, fun p c H1 np s1 pen1 => ?_⟩
    have hT1 : LamX.Tabs [(Pt, ("law.<locals>." : Str) ++ "<lambda>")] H1 := by
      intro e he
      rw [List.mem_singleton.mp he]
      exact LamX.TabS.nil (s1 _ _ hP)
    refine ⟨2, rfl, by decide, by decide, for_range (lo := 0) (n := 2) (fun i σ H2 => ∃ (y2 y3 y4 y5 y6 y7 y8 y9 y10 y11 y12 y13 y14 y15 y16 y17 y18 y19 y20 : Option V), σ = [some (.ref a), some (.ref p), y2, y3, y4, y5, y6, y7, y8, y9, y10, y11, y12, y13, y14, y15, y16, y17, y18, y19, y20] ∧ PenAt H2 p c (2100 * i) ∧ LamX.Tabs [(Pt, ("law.<locals>." : Str) ++ "<lambda>")] H2) ⟨_, _, _, _, _, _, _, _, _, _, _, _, _, _, _, _, _, _, _, rfl, pen1, hT1⟩ ?_ ?_⟩
    · rintro i σ H2 hi ⟨y2, y3, y4, y5, y6, y7, y8, y9, y10, y11, y12, y13, y14, y15, y16, y17, y18, y19, y20, rfl, pen2, hT2⟩
      refine ⟨_, rfl, p, c, _, rfl, pen2, by omega, fun q H3 hq k3 pen3 => ?_⟩
      obtain ⟨q2, q97⟩ := prime_rng q hq
      have q0 : 0 < q := by omega
      have hT3 := tabs_kp hT2 pen2 k3
      refine ⟨_, rfl, p, c, 4, _, rfl, by decide, by decide, pen3, by omega, fun N ns2 H4 nN k4 pen4 hN hnl hnd hok => ?_⟩
      have hT4 := tabs_kp hT3 pen3 k4
      refine ⟨sl_of (show 2 ≤ 1000000 by decide), fun t nt => ?_⟩
      have st := same_new nt (o := HO.tup [V.int q, V.ref N])
      refine ⟨t, _, rfl, SqT.of upd_same, rfl, _, _, rfl, _, _, rfl, rfl, ?_⟩
      have hN5 := st _ _ hN
      have pen5 := (pen4.same st).mono (show _ ≤ 2100 * i + 27 by omega)
      have hT5 := fun z hz => (hT4 z hz).ext st
      generalize upd H4 t (.tup [V.int q, V.ref N]) = H5 at hN5 pen5 hT5
      clear st hN pen4 hT4 nt nN hT2 hT3
      have hn4 : ns2.length = 4 := hnl
      -- the history and a road
      refine ⟨fun σ H' => ∃ (A r D T0 : Addr) (xs : List V) (as : List Act), σ = [some (.ref a), some (.ref p), some (.int (0 + (i : Int))), some (.int q), some (.ref N), some (.ref A), some (.ref r), y7, y8, y9, y10, y11, y12, y13, y14, y15, y16, y17, y18, y19, y20] ∧ LamX.Tabs [(Pt, ("law.<locals>." : Str) ++ "<lambda>")] H' ∧ L98 K C p c (2100 * i + 1027) (M3 p D T0) H' N ns2 r D T0 q [] [] ∧ HisAt K (M3 p D T0) H' A xs as ∧ Taken as ∧ as.length ≤ 12 ∧ (∀ z ∈ namesOf as, z ∈ ns2), ?_, ?_⟩
      · refine ⟨_, rfl, _, rfl, p, c, N, 12, true, ns2, _, rfl, by decide, by decide, hN5, hnd, hok, by omega, by omega, pen5, by omega, fun A xs as H6 k6 pen6 nA hA hX tk l12 _ nms => ?_⟩
        have hT6 := tabs_kp hT5 pen5 k6
        refine ⟨_, rfl, ?_⟩
        intro r dx nr ndx nex
        have s1 : Same H6 (upd (upd H6 dx (.own r)) r (.ins C dx [])) := fun b o e => by
          rw [upd_ne (ne_of_none e nr), upd_ne (ne_of_none e ndx)]
          exact e
        refine ⟨r, dx, q, rfl, upd_same, fun D T0 H7 k7 nD nT DT hr7 hD7 hT7 => ⟨rfl, ?_⟩⟩
        obtain ⟨_, _, _, hpp6, hcc6, _⟩ := id pen6.ex
        have nD6 := none_before s1 nD
        have nT6 := none_before s1 nT
        have s7 : Same H6 H7 := fun b o e => k7 b o (ne_of_none e nr) (s1 _ _ e)
        have hp7 := s7 _ _ hpp6
        have rp : r ≠ p := (ne_of_none hpp6 nr).symm
        have out6 : ∀ {b : Addr} {o : HO}, b ≠ p → H6 b = some o → ¬ M3 p D T0 b := fun {b o} np e z => by
          rcases z with z | z | z
          · exact np z
          · rw [z, nD6] at e
            cases e
          · rw [z, nT6] at e
            cases e
        have k67 : Kp p H6 (erM (M3 p D T0) H7) := fun b o np e => erM_of (out6 np e) (s7 _ _ e)
        have Np : N ≠ p := fun z => by
          rw [z] at hN5
          obtain ⟨_, e⟩ := pen5.dk
          rw [hN5] at e
          cases e
        have hN6 := k6 _ _ Np hN5
        have cp : c ≠ p := fun z => by
          rw [z, hpp6] at hcc6
          cases hcc6
        refine ⟨sl_of (show 2 ≤ 1000000 by decide), fun t nt => ?_⟩
        have st := same_new nt (o := HO.tup [V.ref A, V.ref r])
        have kst : Kst (M3 p D T0) H7 (upd H7 t (.tup [V.ref A, V.ref r])) := fun b o _ e => st _ _ e
        have L7 : L98 K C p c (2100 * i + 1027) (M3 p D T0) H7 N ns2 r D T0 q [] [] := ⟨pen6.same s7, RoadAt.made hr7 hD7 hT7 rp DT, M3.mok hp7 hD7 hT7, erM_of (out6 Np hN6) (s7 _ _ hN6), out6 cp hcc6⟩
        refine ⟨t, _, rfl, SqT.of upd_same, rfl, _, _, rfl, _, _, rfl, rfl, ?_⟩
        exact ⟨A, r, D, T0, xs, as, rfl, fun z hz => ((hT6 z hz).ext s7).ext st, L7.same st, HisAt.kst ⟨kp_lst pen6 k67 hA, ActVs.kp pen6 k67 hX⟩ kst, tk, l12, nms⟩
      rintro σ H6 ⟨A, r, D, T0, xs, as, rfl, hT6, L6, hA6, tk, l12, nms⟩
      obtain ⟨M, hM⟩ : ∃ X, X = M3 p D T0 := ⟨_, rfl⟩
      rw [← hM] at L6 hA6
      clear hT5 pen5 hN5
      -- an action far away
      refine ⟨fun σ H' => ∃ (t : Addr) (n : Str) (pl : Int), σ = [some (.ref a), some (.ref p), some (.int (0 + (i : Int))), some (.int q), some (.ref N), some (.ref A), some (.ref r), some (.ref t), y8, y9, y10, y11, y12, y13, y14, y15, y16, y17, y18, y19, y20] ∧ LamX.Tabs [(Pt, ("law.<locals>." : Str) ++ "<lambda>")] H' ∧ L98 K C p c (2100 * i + 1028) M H' N ns2 r D T0 q [] [] ∧ HisAt K M H' A xs as ∧ ActV K (erM M H') (.ref t) (.enter n pl) ∧ SqT K (erM M H') t [.str "enter", .str n, .int pl] ∧ n ∉ ns2 ∧ nameOk n = true ∧ pl.natAbs ≤ 10 ^ 30, ?_, ?_⟩
      · dsimp only [tAsg, tTup, tCons]
        obtain ⟨ch, more, eF, nF, okF⟩ := far5 (ns := ns2) (by omega)
        have hN6 := (erM_at L6.nm).2
        show tOp _ _ _ _ _ _
        unfold tOp
        refine lcSignM (fun ch => !decide (far8 ch ∈ ns2)) far8 (by decide +kernel) (fun R h => h) (fun _ => rfl) (fun ch H12 R s12 h => ?_) (fun ch H12 R h => ⟨_, rfl, _, _, rfl, rfl, mul_far ch, h⟩) fun W H12 s12 nW hW => ?_
        · refine ⟨_, rfl, _, _, rfl, rfl, mul_far ch, _, rfl, N, _, rfl, .inl (SqL.of (s12 _ _ hN6)), rfl, flat_strs _, ?_⟩
          rw [show Txt.mul ⟨#[ch]⟩ 8 = far8 ch from rfl, inV_strs]
          exact ⟨_, rfl, h⟩
        rw [eF] at hW
        refine ⟨W, _, 0, .str (far8 ch), rfl, rfl, SqL.of hW, at_head _ _, ?_⟩
        have L12 := L6.same s12
        have kW : Kst M H6 H12 := fun b o _ e => s12 _ _ e
        refine ⟨_, rfl, _, _, rfl, rfl, ⟨by decide, by decide, by decide⟩, p, c, (10 : Int) ^ 30, _, rfl, by decide +kernel, by decide +kernel, L12.pen, by omega, fun pl H13 hpl k13 pen13 => ⟨sl_of (show 3 ≤ 1000000 by decide), fun t nt => ?_⟩⟩
        have L13 := L12.kp k13 pen13
        have st := same_new nt (o := HO.tup [V.str "enter", V.str (far8 ch), V.int pl])
        have ht := erM_of (M := M) (fun z => L13.mok.there z nt) (upd_same (H := H13) (a := t) (o := HO.tup [V.str "enter", V.str (far8 ch), V.int pl]))
        have k3' : Kst M H12 H13 := k13.ks L12.mok.pen
        refine ⟨t, far8 ch, pl, rfl, fun z hz => ((tabs_kp (fun z hz => (hT6 z hz).ext s12) L12.pen k13) z hz).ext st, (L13.same st).mono (by omega), ((hA6.kst kW).kst k3').kst (fun b o _ e => st _ _ e), ⟨t, rfl, SqT.of ht⟩, SqT.of ht, nF, okF, ?_⟩
        have e30 : ((10 : Int) ^ 30).natAbs = 10 ^ 30 := by decide +kernel
        omega
      rintro σ H7 ⟨t, n, pl, rfl, hT7, L7, hA7, hF7, hF7t, nn, nok, hpl⟩
      clear hT6 L6 hA6
      -- all actions are performed
      obtain ⟨as2, eas2⟩ : ∃ X, X = (as ++ [Act.enter n pl]) ++ [Act.run n (.list []) []] := ⟨_, rfl⟩
      have mem1 : n ∈ namesOf (as ++ [Act.enter n pl]) := by
        rw [names_app]
        exact List.mem_append_right _ List.mem_cons_self
      have empt : ProgOk [] := ((Flat.mild (N := 0) (R := 0) ⟨Nat.le_refl _, fun _ h => absurd h List.not_mem_nil, fun _ h => absurd h List.not_mem_nil⟩ (by decide)).up (by decide) (by decide) (by decide) : Mild [] 2 11 3).deep.po
      have tk2 : Taken as2 := by
        rw [eas2]
        exact Taken.snoc (a := Act.run n (.list []) []) (Taken.snoc (a := Act.enter n pl) tk ⟨nok, fun z => nn (nms n z), hpl⟩) ⟨mem1, empt, .lst .nil⟩
      have l2 : as2.length = as.length + 2 := by
        rw [eas2, List.length_append, List.length_append]
        rfl
      have l14 : as2.length ≤ 14 := by omega
      refine ⟨fun σ H' => ∃ y8 : Option V, σ = [some (.ref a), some (.ref p), some (.int (0 + (i : Int))), some (.int q), some (.ref N), some (.ref A), some (.ref r), some (.ref t), y8, y9, y10, y11, y12, y13, y14, y15, y16, y17, y18, y19, y20] ∧ LamX.Tabs [(Pt, ("law.<locals>." : Str) ++ "<lambda>")] H' ∧ L98 K C p c (2100 * i + 1028) M H' N ns2 r D T0 q as2 [] ∧ HisAt K M H' A xs as, ?_, ?_⟩
      · have hA7l := hA7.list
        refine ⟨_, rfl, _, rfl, _, rfl, t, _, 1, _, rfl, rfl, (same_t erM_le hF7t), (show atI [V.str "enter", V.str n, V.int pl] 1 = some (V.str n) from rfl), Nat.zero_le _, fun E1 nE => ?_⟩
        have s1 := same_new nE (o := HO.lst [])
        refine ⟨sl_of (show 3 ≤ 1000000 by decide), fun u nu => ?_⟩
        have s2 := s1.trans (same_new nu (o := HO.tup [V.str "run", V.str n, V.ref E1]))
        have hu2' : (upd (upd H7 E1 (.lst [])) u (.tup [V.str "run", V.str n, V.ref E1])) u = some (.tup [V.str "run", V.str n, V.ref E1]) := upd_same
        have hE2 : (upd (upd H7 E1 (.lst [])) u (.tup [V.str "run", V.str n, V.ref E1])) E1 = some (.lst []) := (upd_ne (ne_of_none upd_same nu)).trans upd_same
        have nu7 := none_before s1 nu
        generalize upd (upd H7 E1 (.lst [])) u (.tup [V.str "run", V.str n, V.ref E1]) = Hu at s2 hu2' hE2
        refine ⟨sl_of (show 2 ≤ 1000000 by decide), fun W nW => ?_⟩
        have s3 := s2.trans (same_new nW (o := HO.lst [V.ref t, V.ref u]))
        have sW := same_new nW (o := HO.lst [V.ref t, V.ref u])
        have hW : (upd Hu W (.lst [V.ref t, V.ref u])) W = some (.lst [V.ref t, V.ref u]) := upd_same
        have hu3 := sW _ _ hu2'
        have hE3 := sW _ _ hE2
        generalize upd Hu W (.lst [V.ref t, V.ref u]) = Hw at s3 hW hu3 hE3
        refine ⟨A, W, _, _, rfl, rfl, s3 _ _ hA7l, hW, sl_of (show xs.length + 2 ≤ 1000000 by have := hA7.acts.len; omega), fun Z1 nZ => ?_⟩
        have sZ := same_new nZ (o := HO.lst (xs ++ [V.ref t, V.ref u]))
        have s4 := s3.trans sZ
        have hZ : (upd Hw Z1 (.lst (xs ++ [V.ref t, V.ref u]))) Z1 = some (.lst (xs ++ [V.ref t, V.ref u])) := upd_same
        have hu4 := sZ _ _ hu3
        have hE4 := sZ _ _ hE3
        generalize upd Hw Z1 (.lst (xs ++ [V.ref t, V.ref u])) = H9 at s4 hZ hu4 hE4
        have L9 := L7.same s4
        have k4 : Kst M H7 H9 := fun b o _ e => s4 _ _ e
        have inM : ∀ {b : Addr} {o : HO}, H7 b = none → H9 b = some o → erM M H9 b = some o := fun {b o} nb e => erM_of (fun z => L7.mok.there z nb) e
        have hX9 : ActVs K (erM M H9) (xs ++ [V.ref t, V.ref u]) as2 := by
          rw [eas2, List.append_assoc]
          exact paired_app (hA7.kst k4).acts (.cons (hF7.same k4.er) (.cons ⟨u, .ref E1, rfl, SqT.of (inM nu7 hu4), .lst (SqL.of (inM nE hE4)) .nil, .lst .nil⟩ .nil))
        have hZ9 := inM (none_before s3 nZ) hZ
        have lx := hX9.len
        refine ⟨Z1, rfl, ⟨_, SqL.of hZ⟩, for_list (K := K) (a := Z1) (xs := xs ++ [V.ref t, V.ref u]) (fun j σ H' => ∃ (y8 : Option V), σ = [some (.ref a), some (.ref p), some (.int (0 + (i : Int))), some (.int q), some (.ref N), some (.ref A), some (.ref r), some (.ref t), y8, y9, y10, y11, y12, y13, y14, y15, y16, y17, y18, y19, y20] ∧ Kst M H9 H' ∧ L98 K C p c (2100 * i + 1028) M H' N ns2 r D T0 q (as2.take j) []) ⟨y8, rfl, Kst.refl _ _, by rw [List.take_zero]; exact L9⟩ ?_ ?_ ?_⟩
        · rintro j σ H' _ ⟨_, _, kM, _⟩
          exact SqL.of (erM_at (kM.er _ _ hZ9)).2
        · rintro j x σ H' hj ⟨y8, rfl, kM, L'⟩
          obtain ⟨aj, ha, hxa⟩ := hX9.get hj
          have hxa' := hxa.same (kM.er.trans erM_le)
          have lt : (as2.take j).length ≤ 14 := by
            rw [List.length_take]
            omega
          refine ⟨_, rfl, _, rfl, r, D, T0, p, q, as2.take j, [], M, x, aj, rfl, L'.road, L'.mok, hxa', tk2 j aj ha, by omega, fun H'' k' mok' R' => ?_⟩
          rw [← take_snoc ha] at R'
          exact ⟨_, rfl, kM.trans (k'.sub (own_sub L'.road)), L'.own k' mok' R'⟩
        · rintro σ H' ⟨y8, rfl, kM, L'⟩
          rw [lx, List.take_length] at L'
          exact ⟨_, rfl, tabs_kst (fun z hz => (hT7 z hz).ext s4) L9.mok kM, L', (hA7.kst k4).kst kM⟩
      rintro σ H8 ⟨y8, rfl, hT8, L8, hA8⟩
      clear hT7 L7 hA7 hF7 hF7t
      -- some are taken back
      refine ⟨fun σ H' => ∃ (W9 : Addr) (ys : List V) (bs : List Act), σ = [some (.ref a), some (.ref p), some (.int (0 + (i : Int))), some (.int q), some (.ref N), some (.ref A), some (.ref r), some (.ref t), y8, some (.ref W9), y10, y11, y12, y13, y14, y15, y16, y17, y18, y19, y20] ∧ LamX.Tabs [(Pt, ("law.<locals>." : Str) ++ "<lambda>")] H' ∧ L98 K C p c (2100 * i + 1029) M H' N ns2 r D T0 q (as2.take (as2.length - ys.length)) bs ∧ HisAt K M H' A xs as ∧ erM M H' W9 = some (.lst ys) ∧ ys.length ≤ 2, ?_, ?_⟩
      · dsimp only [tAsg]
        refine lcOver (fun J H0 => ∃ N0 : Nat, J = Itr 0 N0 ∧ N0 ≤ 2 ∧ Kp p H8 H0 ∧ PenAt H0 p c (2100 * i + 1029)) (fun S0 hS => ⟨_, rfl, p, c, 3, _, rfl, by decide, by decide, L8.pen, by omega, fun u H9 u0 u3 k9 pen9 => ?_⟩) ?_
        · exact ⟨u, rfl, by omega, by omega, hS _ _ ⟨u.toNat, rfl, by omega, k9, pen9⟩⟩
        rintro J H0 ⟨N0, rfl, hN0, k0, pen0⟩
        have L0 := L8.kp k0 pen0
        have hA0 := hA8.kst (k0.ks L8.mok.pen)
        have hT0 := tabs_kp hT8 L8.pen k0
        intro W nW
        have few : as2.length ≤ 14 := l14
        have nWM : ¬ M W := fun z => L0.mok.there z nW
        have LW := L0.grow nW
        have WD : W ≠ D := fun z => nWM (by rw [z]; exact L0.road.mD)
        have WT : W ≠ T0 := fun z => nWM (by rw [z]; exact L0.road.mT)
        have okA := fun {x : Act} (hx : x ∈ as2) => tk2.okA hx
        refine lc_range (lo := 0) (n := N0) (fun m H' => ∃ (ys : List V) (bs : List Act), Kst (MAdd M W W) (upd H0 W (.lst [])) H' ∧ L98 K C p c (2100 * i + 1029) (MAdd M W W) H' N ns2 r D T0 q (as2.take (as2.length - m)) bs ∧ H' W = some (.lst ys) ∧ ys.length = m ∧ bs.length = m) ⟨[], [], Kst.refl _ _, by rw [Nat.sub_zero, List.take_length]; exact LW, upd_same, rfl, rfl⟩ (fun m H' hm ⟨ys, bs, kM, L', hW', ly, lb⟩ => ⟨rfl, ?_⟩) fun H' ⟨ys, bs, kM, L', hW', ly, lb⟩ => ?_
        · have hat : as2[as2.length - (m + 1)]? = some as2[as2.length - (m + 1)] := List.getElem?_eq_getElem (by omega)
          generalize as2[as2.length - (m + 1)] = aj at hat
          have e1 : as2.length - m = as2.length - (m + 1) + 1 := by omega
          rw [e1, take_snoc hat] at L'
          obtain ⟨dx, hr0⟩ := L'.road.ob
          refine ⟨_, rfl, r, dx, _, rfl, hr0, ro_no _ _ _ (by decide +kernel), r, D, T0, p, q, as2.take (as2.length - (m + 1)), bs, aj, MAdd M W W, rfl, L'.road, L'.mok, by omega, okA (List.mem_of_getElem? hat), fun v H'' k' mok' R' _ => ?_⟩
          have L2 := L'.own k' mok' R'
          have hW2 : H'' W = some (.lst ys) := k' _ _ (fun z => z.elim WD WT) hW'
          have mW : MAdd M W W W := .inr (.inl rfl)
          exact ⟨ys, hW2, sl_lt (by omega), _, _, kM.trans ((k'.sub (own_sub L'.road)).trans fun b o nb e => (upd_ne fun z => nb (by rw [z]; exact mW)).trans e), L2.put mW hW2 WD WT, upd_same, by rw [List.length_append, ly]; rfl, by rw [List.length_append, lb]; rfl⟩
        · have L1 := L'.narrow L0.mok.pen L0.road.mD L0.road.mT
          have kk : Kst (MAdd M W W) H0 H' := fun b o nb e => kM b o nb ((upd_ne (ne_of_none e nW)).trans e)
          have k1 : Kst M H0 H' := fun b o nb e => kk b o (fun z => z.elim nb fun z => ne_of_none e nW (z.elim id id)) e
          exact ⟨W, ys, bs, rfl, tabs_kst hT0 L0.mok k1, by rw [ly]; exact L1, hA0.kst k1, erM_of nWM hW', by omega⟩
      rintro σ H9 ⟨W9, ys, bs, rfl, hT9, L9, hA9, hW9, ly⟩
      clear hT8 L8 hA8
      have lx := hA9.acts.len
      obtain ⟨ds, eds⟩ : ∃ X, X = as2.take (as2.length - ys.length) := ⟨_, rfl⟩
      rw [← eds] at L9
      have tkd : Taken ds := by rw [eds]; exact tk2.take _
      have ld : ds.length = as2.length - ys.length := by rw [eds, List.length_take]; omega
      have okd : ∀ x ∈ ds, OkA x := fun x hx => tkd.okA hx
      have qp : q ∈ primesL := primes_in q hq
      clear eds
      -- what was done, and its text
      refine ⟨fun σ H' => ∃ (G : Addr) (gs : List V), σ = [some (.ref a), some (.ref p), some (.int (0 + (i : Int))), some (.int q), some (.ref N), some (.ref A), some (.ref r), some (.ref t), y8, some (.ref W9), some (.ref G), y11, y12, y13, y14, y15, y16, y17, y18, y19, y20] ∧ LamX.Tabs [(Pt, ("law.<locals>." : Str) ++ "<lambda>")] H' ∧ L98 K C p c (2100 * i + 1029) M H' N ns2 r D T0 q ds bs ∧ erM M H' A = some (.lst xs) ∧ erM M H' W9 = some (.lst ys) ∧ HisAt K M H' G gs ds, ?_, ?_⟩
      · obtain ⟨dx, hr0⟩ := L9.road.ob
        refine ⟨_, rfl, r, dx, _, rfl, hr0, ro_no _ _ _ (by decide +kernel), r, D, T0, q, ds, bs, M, rfl, L9.road, fun G gs H10 s10 nG hG hY => ?_⟩
        have k10 : Kst M H9 H10 := fun b o _ e => s10 _ _ e
        have hY2 : ActVs K (erM M H10) gs ds := by
          exact acts_out L9.mok s10 hY
        exact ⟨G, gs, rfl, fun z hz => (hT9 z hz).ext s10, L9.same s10, k10.er _ _ hA9.ls, k10.er _ _ hW9, erM_of (fun z => L9.mok.there z nG) hG, hY2⟩
      rintro σ H10 ⟨G, gs, rfl, hT10, L10, hA10, hW10, hG10⟩
      clear hT9 L9 hA9 hW9
      have lg := hG10.acts.len
      refine ⟨fun σ H' => σ = [some (.ref a), some (.ref p), some (.int (0 + (i : Int))), some (.int q), some (.ref N), some (.ref A), some (.ref r), some (.ref t), y8, some (.ref W9), some (.ref G), some (.str (svT q ds)), y12, y13, y14, y15, y16, y17, y18, y19, y20] ∧ LamX.Tabs [(Pt, ("law.<locals>." : Str) ++ "<lambda>")] H' ∧ L98 K C p c (2100 * i + 1029) M H' N ns2 r D T0 q ds bs ∧ erM M H' A = some (.lst xs) ∧ erM M H' W9 = some (.lst ys) ∧ HisAt K M H' G gs ds, ?_, ?_⟩
      · refine ⟨_, rfl, _, rfl, q, G, gs, ds, rfl, SqL.of hG10.list, hG10.all, q0, q97, okd, by omega, fun H11 s11 => ?_⟩
        have k11 : Kst M H10 H11 := fun b o _ e => s11 _ _ e
        exact ⟨rfl, fun z hz => (hT10 z hz).ext s11, L10.same s11, k11.er _ _ hA10, k11.er _ _ hW10, hG10.kst k11⟩
      rintro σ H11 ⟨rfl, hT11, L11, hA11, hW11, hG11⟩
      clear hT10 L10 hA10 hW10 hG10
      -- saved; how many
      refine ⟨fun σ H' => σ = [some (.ref a), some (.ref p), some (.int (0 + (i : Int))), some (.int q), some (.ref N), some (.ref A), some (.ref r), some (.ref t), y8, some (.ref W9), some (.ref G), some (.str (svT q ds)), y12, y13, y14, y15, y16, y17, y18, y19, y20] ∧ LamX.Tabs [(Pt, ("law.<locals>." : Str) ++ "<lambda>")] H' ∧ L98 K C p c (2100 * i + 1029) M H' N ns2 r D T0 q ds bs ∧ HisAt K M H' G gs ds, ?_, ?_⟩
      · refine ⟨_, rfl, r, D, T0, q, ds, bs, M, rfl, L11.road, q0, q97, okd, by omega, fun H12 s12 => ?_⟩
        have k12 : Kst M H11 H12 := fun b o _ e => s12 _ _ e
        have L12 := L11.same s12
        refine ⟨_, rfl, rfl, _, rfl, iteNS rfl ?_⟩
        refine ⟨_, rfl, G, _, rfl, .inl (SqL.of (hG11.kst k12).list), _, rfl, W9, _, rfl, .inl (SqL.of (erM_at (k12.er _ _ hW11)).2), _, _, rfl, rfl, _, rfl, A, _, rfl, .inl (SqL.of (erM_at (k12.er _ _ hA11)).2), _, _, rfl, rfl, rfl, _, rfl, iteNS (congrArg V.int ?_) ?_⟩
        · omega
        exact ⟨rfl, fun z hz => (hT11 z hz).ext s12, L12, hG11.kst k12⟩
      rintro σ H12 ⟨rfl, hT12, L12, hG12⟩
      clear hT11 L11 hA11 hW11 hG11
      -- loaded
      refine ⟨fun σ H' => ∃ (r2 D2 T2 : Addr), σ = [some (.ref a), some (.ref p), some (.int (0 + (i : Int))), some (.int q), some (.ref N), some (.ref A), some (.ref r), some (.ref t), y8, some (.ref W9), some (.ref G), some (.str (svT q ds)), some (.ref r2), y13, y14, y15, y16, y17, y18, y19, y20] ∧ LamX.Tabs [(Pt, ("law.<locals>." : Str) ++ "<lambda>")] H' ∧ L98b K C p c (2100 * i + 1029) (MAdd M D2 T2) H' N ns2 r D T0 q ds bs r2 D2 T2 (ds.map lsA) [] ∧ HisAt K (MAdd M D2 T2) H' G gs ds, ?_, ?_⟩
      · refine ⟨_, rfl, p, M, q, ds, rfl, L12.mok, qp, tkd, by omega, fun r2 D2 T2 H13 s13 nr nD nT mok R2 => ?_⟩
        exact ⟨r2, D2, T2, rfl, fun z hz => (hT12 z hz).ext s13, L12.load s13 nD nT mok R2, hG12.load s13 nD nT⟩
      rintro σ H13 ⟨r2, D2, T2, rfl, hT13, L13, hG13⟩
      clear hT12 L12 hG12
      obtain ⟨M1, eM1⟩ : ∃ X, X = MAdd M D2 T2 := ⟨_, rfl⟩
      rw [← eM1] at L13 hG13
      have ll : (ds.map lsA).length = ds.length := List.length_map _
      have tkl := taken_ls tkd
      have okl : ∀ x ∈ ds.map lsA, OkA x := fun x hx => tkl.okA hx
      -- it is equal, with the same text
      refine ⟨fun σ H' => σ = [some (.ref a), some (.ref p), some (.int (0 + (i : Int))), some (.int q), some (.ref N), some (.ref A), some (.ref r), some (.ref t), y8, some (.ref W9), some (.ref G), some (.str (svT q ds)), some (.ref r2), y13, y14, y15, y16, y17, y18, y19, y20] ∧ LamX.Tabs [(Pt, ("law.<locals>." : Str) ++ "<lambda>")] H' ∧ L98b K C p c (2100 * i + 1029) M1 H' N ns2 r D T0 q ds bs r2 D2 T2 (ds.map lsA) [] ∧ HisAt K M1 H' G gs ds, ?_, ?_⟩
      · obtain ⟨dx1, ob1⟩ := L13.l.road.ob
        obtain ⟨dx2, ob2⟩ := L13.two.ob
        refine ⟨_, rfl, r2, dx2, _, rfl, ob2, _, rfl, iteF ?_⟩
        refine ⟨_, rfl, _, rfl, ⟨r2, dx2, _, rfl, ob2⟩, ⟨r, dx1, _, rfl, ob1⟩, r2, D2, T2, r, D, T0, q, q, ds.map lsA, [], ds, bs, M1, M1, rfl, L13.two, L13.l.road, okl, okd, fun b H14 s14 says => ⟨b, rfl, ?_⟩⟩
        rw [says.2 rfl (ls_twice ds)]
        refine ⟨_, rfl, iteF ?_⟩
        have L14 := L13.same s14
        refine ⟨_, rfl, r2, D2, T2, q, ds.map lsA, [], M1, rfl, L14.two, q0, q97, okl, by omega, fun H15 s15 => ?_⟩
        have s35 := s14.trans s15
        have k35 : Kst M1 H13 H15 := fun b o _ e => s35 _ _ e
        rw [svT_ls]
        refine ⟨_, rfl, rfl, _, rfl, iteNS rfl ?_⟩
        exact ⟨rfl, fun z hz => (hT13 z hz).ext s35, L13.same s35, hG13.kst k35⟩
      rintro σ H14 ⟨rfl, hT14, L14, hG14⟩
      clear hT13 L13 hG13
      -- nothing to be done again
      refine ⟨fun σ H' => σ = [some (.ref a), some (.ref p), some (.int (0 + (i : Int))), some (.int q), some (.ref N), some (.ref A), some (.ref r), some (.ref t), y8, some (.ref W9), some (.ref G), some (.str (svT q ds)), some (.ref r2), y13, y14, y15, y16, y17, y18, y19, y20] ∧ LamX.Tabs [(Pt, ("law.<locals>." : Str) ++ "<lambda>")] H' ∧ L98b K C p c (2100 * i + 1029) M1 H' N ns2 r D T0 q ds bs r2 D2 T2 (ds.map lsA) [] ∧ HisAt K M1 H' G gs ds, ?_, ?_⟩
      · refine ⟨hT14, fun H15 e15 hT15 => ?_⟩
        have L15 := L14.ext e15
        have hG15 := hG14.ext e15
        obtain ⟨dx2, ob2⟩ := L15.two.ob
        refine ⟨_, rfl, r2, dx2, _, rfl, ob2, ro_no _ _ _ (by decide +kernel), r2, D2, T2, q, ds.map lsA, M1, rfl, L15.two, fun d nd => ⟨NX, ?_⟩⟩
        have sd := same_new nd (o := HO.xd [(("word" : Str), V.str "redo")])
        refine ⟨_, rfl, iteF ?_⟩
        exact ⟨rfl, fun z hz => (hT15 z hz).ext sd, L15.same sd, hG15.kst fun b o _ e => sd _ _ e⟩
      rintro σ H15 ⟨rfl, hT15, L15, hG15⟩
      clear hT14 L14 hG14
      -- its actions, told by the law
      refine ⟨fun σ H' => ∃ (P1 : Addr) (ps : List V), σ = [some (.ref a), some (.ref p), some (.int (0 + (i : Int))), some (.int q), some (.ref N), some (.ref A), some (.ref r), some (.ref t), y8, some (.ref W9), some (.ref G), some (.str (svT q ds)), some (.ref r2), some (.ref P1), y14, y15, y16, y17, y18, y19, y20] ∧ LamX.Tabs [(Pt, ("law.<locals>." : Str) ++ "<lambda>")] H' ∧ L98b K C p c (2100 * i + 1029) M1 H' N ns2 r D T0 q ds bs r2 D2 T2 (ds.map lsA) [] ∧ HisAt K M1 H' G gs ds ∧ HisAt K M1 H' P1 ps (ds.map lsA), ?_, ?_⟩
      · dsimp only [tAsg]
        have hG0 := hG15.list
        refine lcW (n := gs.length) (J := Itl K G) (walk_list (K := K) (a := G) (xs := gs)) (fun m H1 v => ∃ a1, ds[m]? = some a1 ∧ ActV K (erM M1 H1) v (lsA a1)) (fun m Ha Hb v s ⟨a1, e1, e2⟩ => ⟨a1, e1, e2.same (Same.ks (M := M1) s).er⟩) (fun S hS => ⟨_, rfl, G, rfl, ⟨_, SqL.of hG0⟩, hS⟩) (fun H' s' => SqL.of (s' _ _ hG0)) (by omega) (fun m x Ha Hb hm sa hy S hS => ?_) fun P1 ps H16 nP s16 hP pl hR => ?_
        · obtain ⟨rfl, hx⟩ := hy
          obtain ⟨a1, ha1, hv⟩ := ActVs.get hG15.acts hx
          have ka : Kst M1 H15 Hb := fun b o _ e => sa _ _ e
          have hv2 := hv.same ka.er
          have ok1 := okd a1 (List.mem_of_getElem? ha1)
          have moka := L15.l.mok.same sa
          cases a1 with
          | enter n1 pl1 =>
            obtain ⟨t1, rfl, ht1⟩ := hv2
            refine ⟨t1, _, rfl, same_t erM_le ht1, rfl, _, _, rfl, _, _, rfl, _, _, rfl, rfl, rfl, ?_⟩
            refine ⟨_, rfl, _, rfl, _, rfl, rfl, _, rfl, iteN (by decide +kernel) ?_⟩
            refine ⟨_, rfl, sl_of (show 3 ≤ 1000000 by decide), fun t2 nt2 => ?_⟩
            have st := same_new nt2 (o := HO.tup [V.str "enter", V.str n1, V.int pl1])
            refine hS _ _ st fun B nB hB => ⟨_, ha1, t2, rfl, SqT.of (erM_of (fun z => moka.there z nt2) (er1_of (fun z => nB (by rw [← z]; exact nt2)) upd_same))⟩
          | run n1 d1 b1 =>
            obtain ⟨t1, u1, rfl, ht1, hd1, hp1⟩ := hv2
            have po := ok1.2.1
            refine ⟨t1, _, rfl, same_t erM_le ht1, rfl, _, _, rfl, _, _, rfl, _, _, rfl, rfl, rfl, ?_⟩
            refine ⟨_, rfl, _, rfl, _, rfl, rfl, _, rfl, iteS rfl ?_⟩
            refine ⟨_, rfl, u1, d1, b1, rfl, Dp.same erM_le hd1, hp1, po.dp, by decide, Nat.le_trans po.cn (by decide), fun v' H3 s3 hv' => ⟨sl_of (show 3 ≤ 1000000 by decide), fun t2 nt2 => ?_⟩⟩
            have st := same_new nt2 (o := HO.tup [V.str "run", V.str n1, v'])
            refine hS _ _ (s3.trans st) fun B nB ⟨zs, hB⟩ => ?_
            have hB0 : Hb B = some (.lst zs) := by
              cases e : Hb B with
              | none => exact absurd e nB
              | some o =>
                have := st _ _ (s3 _ _ e)
                rw [hB] at this
                cases this
                rfl
            have tB : t2 ≠ B := fun z => by
              have := s3 _ _ hB0
              rw [← z, nt2] at this
              cases this
            have up : Same (er1 B H3) (er1 B (upd H3 t2 (.tup [V.str "run", V.str n1, v']))) := fun b o e => by
              obtain ⟨e1, e2⟩ := er1_at e
              exact er1_of e1 (st _ _ e2)
            exact ⟨_, ha1, t2, v', rfl, SqT.of (erM_of (fun z => (moka.same s3).there z nt2) (er1_of tB upd_same)), Dp.same ((Same.ks (M := M1) up).er) (data_out moka hB0 s3 hv'), .lst (isA_ld b1)⟩
        · have k16 : Kst M1 H15 H16 := fun b o _ e => s16 _ _ e
          exact ⟨P1, ps, rfl, fun z hz => (hT15 z hz).ext s16, L15.same s16, hG15.kst k16, erM_of (fun z => L15.l.mok.there z nP) hP, acts_told (by omega) hR⟩
      rintro σ H16 ⟨P1, ps, rfl, hT16, L16, hG16, hP16⟩
      clear hT15 L15 hG15
      have few : (ds.map lsA).length ≤ 20 := by omega
      obtain ⟨w1, w2, w3, w4⟩ := acts_shows tkl few
      refine ⟨fun σ H' => σ = [some (.ref a), some (.ref p), some (.int (0 + (i : Int))), some (.int q), some (.ref N), some (.ref A), some (.ref r), some (.ref t), y8, some (.ref W9), some (.ref G), some (.str (svT q ds)), some (.ref r2), some (.ref P1), y14, y15, y16, y17, y18, y19, y20] ∧ LamX.Tabs [(Pt, ("law.<locals>." : Str) ++ "<lambda>")] H' ∧ L98b K C p c (2100 * i + 1029) M1 H' N ns2 r D T0 q ds bs r2 D2 T2 (ds.map lsA) [] ∧ HisAt K M1 H' G gs ds, ?_, ?_⟩
      · obtain ⟨dx2, ob2⟩ := L16.two.ob
        refine ⟨_, rfl, r2, dx2, _, rfl, ob2, ro_no _ _ _ (by decide +kernel), r2, D2, T2, q, ds.map lsA, [], M1, rfl, L16.two, fun Y zs H17 s17 nY hY hZ => ?_⟩
        have k17 : Kst M1 H16 H17 := fun b o _ e => s17 _ _ e
        have dY : Dp K H17 (.ref Y) (.list ((ds.map lsA).map actD)) := .lst (SqL.of hY) (DpAll.same (fun b o e => (er_at (er1_at e).2).1) (ActVs.dp hZ))
        have hP17 := hP16.kst k17
        have dP : Dp K H17 (.ref P1) (.list ((ds.map lsA).map actD)) := .lst (SqL.of hP17.list) (ActVs.dp hP17.all)
        refine ⟨.ref Y, .list ((ds.map lsA).map actD), rfl, .inl dY, w1, w2, w3, w4, _, rfl, .ref P1, .list ((ds.map lsA).map actD), rfl, .inl dP, w1, w2, w3, w4, rfl, _, rfl, iteNS rfl ?_⟩
        exact ⟨rfl, fun z hz => (hT16 z hz).ext s17, L16.same s17, hG16.kst k17⟩
      rintro σ H17 ⟨rfl, hT17, L17, hG17⟩
      clear hT16 L16 hG16 hP16
      -- loaded once more
      refine ⟨fun σ H' => ∃ (r3 D3 T3 : Addr), σ = [some (.ref a), some (.ref p), some (.int (0 + (i : Int))), some (.int q), some (.ref N), some (.ref A), some (.ref r), some (.ref t), y8, some (.ref W9), some (.ref G), some (.str (svT q ds)), some (.ref r2), some (.ref P1), some (.ref r3), y15, y16, y17, y18, y19, y20] ∧ LamX.Tabs [(Pt, ("law.<locals>." : Str) ++ "<lambda>")] H' ∧ L98b K C p c (2100 * i + 1029) (MAdd M1 D3 T3) H' N ns2 r D T0 q ds bs r2 D2 T2 (ds.map lsA) [] ∧ HisAt K (MAdd M1 D3 T3) H' G gs ds ∧ RoadAt K C (MAdd M1 D3 T3) H' r3 D3 T3 q (ds.map lsA) [] ∧ D3 ≠ D2 ∧ D3 ≠ T2 ∧ T3 ≠ D2 ∧ T3 ≠ T2, ?_, ?_⟩
      · refine ⟨_, rfl, p, M1, q, ds, rfl, L17.l.mok, qp, tkd, by omega, fun r3 D3 T3 H18 s18 nr nD nT mok R3 => ?_⟩
        obtain ⟨L18, ap⟩ := L17.more s18 nD nT mok R3
        exact ⟨r3, D3, T3, rfl, fun z hz => (hT17 z hz).ext s18, L18, hG17.load s18 nD nT, R3, ap⟩
      rintro σ H18 ⟨r3, D3, T3, rfl, hT18, L18, hG18, R18, ap1, ap2, ap3, ap4⟩
      clear hT17 L17 hG17
      obtain ⟨M2, eM2⟩ : ∃ X, X = MAdd M1 D3 T3 := ⟨_, rfl⟩
      rw [← eM2] at L18 hG18 R18
      -- taken back one by one
      refine ⟨fun σ H' => ∃ (y15 y16 : Option V) (es : List Act), σ = [some (.ref a), some (.ref p), some (.int (0 + (i : Int))), some (.int q), some (.ref N), some (.ref A), some (.ref r), some (.ref t), y8, some (.ref W9), some (.ref G), some (.str (svT q ds)), some (.ref r2), some (.ref P1), some (.ref r3), y15, y16, y17, y18, y19, y20] ∧ LamX.Tabs [(Pt, ("law.<locals>." : Str) ++ "<lambda>")] H' ∧ L98b K C p c (2100 * i + 1029) M2 H' N ns2 r D T0 q ds bs r2 D2 T2 [] es ∧ RoadAt K C M2 H' r3 D3 T3 q (ds.map lsA) [], ?_, ?_⟩
      · refine ⟨_, rfl, G, gs, rfl, .inl (SqL.of hG18.list), ?_⟩
        have hn : ∀ {k : Nat}, k < ds.length → ds.length - k = ds.length - (k + 1) + 1 := fun h => by omega
        refine ⟨(gs.length : Int), rfl, by omega, by omega, for_range (lo := 0) (n := gs.length) (fun j σ H' => ∃ (y15 y16 : Option V) (es : List Act), σ = [some (.ref a), some (.ref p), some (.int (0 + (i : Int))), some (.int q), some (.ref N), some (.ref A), some (.ref r), some (.ref t), y8, some (.ref W9), some (.ref G), some (.str (svT q ds)), some (.ref r2), some (.ref P1), some (.ref r3), y15, y16, y17, y18, y19, y20] ∧ Kst M2 H18 H' ∧ L98b K C p c (2100 * i + 1029) M2 H' N ns2 r D T0 q ds bs r2 D2 T2 ((ds.map lsA).take (ds.length - j)) es ∧ RoadAt K C M2 H' r3 D3 T3 q (ds.map lsA) [] ∧ es.length = j) ⟨y15, y16, [], rfl, Kst.refl _ _, by rw [Nat.sub_zero, ← ll, List.take_length]; exact L18, R18, rfl⟩ ?_ ?_⟩
        · rintro j σ H' hj ⟨y15, y16, es, rfl, kM, L', R', le⟩
          have hat : (ds.map lsA)[ds.length - (j + 1)]? = some (ds.map lsA)[ds.length - (j + 1)] := List.getElem?_eq_getElem (by omega)
          generalize (ds.map lsA)[ds.length - (j + 1)] = aj at hat
          rw [hn (by omega), take_snoc hat] at L'
          obtain ⟨dx, hr0⟩ := L'.two.ob
          refine ⟨_, rfl, r2, dx, _, rfl, hr0, ro_no _ _ _ (by decide +kernel), r2, D2, T2, p, q, (ds.map lsA).take (ds.length - (j + 1)), es, aj, M2, rfl, L'.two, L'.l.mok, by omega, okl aj (List.mem_of_getElem? hat), fun v H'' k' mok' Rn _ => ?_⟩
          have L2 := L'.other k' mok' Rn
          have R2 := R'.keep (k'.sub (own_sub L'.two)) (keep_one k' R'.dn ap1 ap2) (keep_one k' R'.tb ap3 ap4)
          have kM2 := kM.trans (k'.sub (own_sub L'.two))
          have hG2 := hG18.kst kM2
          refine ⟨_, rfl, _, rfl, _, rfl, G, gs, rfl, .inl (SqL.of hG2.list), _, _, rfl, rfl, _, rfl, _, _, rfl, rfl, _, rfl, G, gs, rfl, SqL.of hG2.list, fun X nX => ?_⟩
          have cut : cutV gs none (some ((gs.length : Int) - 1 - (0 + (j : Int)))) = gs.take (ds.length - (j + 1)) := by
            rw [show (gs.length : Int) - 1 - (0 + (j : Int)) = ((ds.length - (j + 1) : Nat) : Int) by omega, cutV_head]
          have sX := same_new nX (o := HO.lst (cutV gs none (some ((gs.length : Int) - 1 - (0 + (j : Int))))))
          have kX : Kst M2 H'' _ := fun b o _ e => sX _ _ e
          have hX : (upd H'' X (.lst (cutV gs none (some ((gs.length : Int) - 1 - (0 + (j : Int))))))) X = some (.lst (gs.take (ds.length - (j + 1)))) := by rw [cut]; exact upd_same
          have hGX := hG2.kst kX
          have LX := L2.same sX
          have RX := R2.same sX
          have kMX := kM2.trans kX
          generalize upd H'' X (.lst (cutV gs none (some ((gs.length : Int) - 1 - (0 + (j : Int)))))) = Hx at hX hGX LX RX kMX
          have tkt := tkd.take (ds.length - (j + 1))
          have okt : ∀ x ∈ ds.take (ds.length - (j + 1)), OkA x := fun x hx => tkt.okA hx
          have lt : (ds.take (ds.length - (j + 1))).length ≤ 14 := by rw [List.length_take]; omega
          refine ⟨q, X, _, _, rfl, SqL.of hX, hGX.all.take _, q0, q97, okt, by omega, fun Hy sy => ?_⟩
          have Ly := LX.same sy
          have emap : (ds.map lsA).take (ds.length - (j + 1)) = (ds.take (ds.length - (j + 1))).map lsA := List.map_take.symm
          have okm : ∀ x ∈ (ds.map lsA).take (ds.length - (j + 1)), OkA x := fun x hx => okl x (List.mem_of_mem_take hx)
          have lm : ((ds.map lsA).take (ds.length - (j + 1))).length = ds.length - (j + 1) := by rw [List.length_take]; omega
          refine ⟨_, rfl, r2, D2, T2, q, _, _, M2, rfl, Ly.two, q0, q97, okm, by omega, fun Hz sz => ?_⟩
          have Lz := Ly.same sz
          refine ⟨_, rfl, rfl, _, rfl, iteNS ?_ ?_⟩
          · rw [emap, svT_ls]
          obtain ⟨dx1, ob1⟩ := Lz.l.road.ob
          obtain ⟨dx2, ob2⟩ := Lz.two.ob
          refine ⟨_, rfl, _, rfl, ⟨r2, dx2, _, rfl, ob2⟩, ⟨r, dx1, _, rfl, ob1⟩, r2, D2, T2, r, D, T0, q, q, _, _, ds, bs, M2, M2, rfl, Lz.two, Lz.l.road, okm, okd, fun b Hw sw says => ⟨b, rfl, ?_⟩⟩
          have eb : b = false := by
            cases b with
            | false => rfl
            | true =>
              have := (says.1 rfl).2
              omega
          rw [eb]
          refine ⟨_, rfl, iteF ?_⟩
          have Lw := Lz.same sw
          refine ⟨_, rfl, r, D, T0, q, ds, bs, M2, rfl, Lw.l.road, q0, q97, okd, by omega, fun Hv sv => ?_⟩
          have sxv := sy.trans (sz.trans (sw.trans sv))
          refine ⟨_, rfl, rfl, _, rfl, iteNS rfl ?_⟩
          exact ⟨_, _, _, rfl, kMX.trans (fun b o _ e => sxv _ _ e), Lw.same sv, RX.same sxv, by rw [List.length_append, le]; rfl⟩
        · rintro σ H' ⟨y15, y16, es, rfl, kM, L', R', le⟩
          rw [lg, Nat.sub_self, List.take_zero] at L'
          exact ⟨_, _, es, rfl, tabs_kst hT18 L18.l.mok kM, L', R'⟩
      rintro σ H19 ⟨y15, y16, es, rfl, hT19, L19, R19⟩
      clear hT18 L18 hG18 R18
      -- nothing left to take back: as a new road
      have okn : ∀ x ∈ ([] : List Act), OkA x := fun x hx => absurd hx List.not_mem_nil
      refine ⟨fun σ H' => σ = [some (.ref a), some (.ref p), some (.int (0 + (i : Int))), some (.int q), some (.ref N), some (.ref A), some (.ref r), some (.ref t), y8, some (.ref W9), some (.ref G), some (.str (svT q ds)), some (.ref r2), some (.ref P1), some (.ref r3), y15, y16, y17, y18, y19, y20] ∧ LamX.Tabs [(Pt, ("law.<locals>." : Str) ++ "<lambda>")] H' ∧ L98b K C p c (2100 * i + 1029) M2 H' N ns2 r D T0 q ds bs r2 D2 T2 [] es ∧ RoadAt K C M2 H' r3 D3 T3 q (ds.map lsA) [], ?_, ?_⟩
      · refine ⟨hT19, fun H20 e20 hT20 => ?_⟩
        have L20 := L19.ext e20
        have R20 := R19.ext e20
        obtain ⟨dx2, ob2⟩ := L20.two.ob
        refine ⟨_, rfl, r2, dx2, _, rfl, ob2, ro_no _ _ _ (by decide +kernel), r2, D2, T2, q, es, M2, rfl, L20.two, fun d nd => ⟨NX, ?_⟩⟩
        have sd := same_new nd (o := HO.xd [(("word" : Str), V.str "undo")])
        refine ⟨_, rfl, iteF ?_⟩
        have L21 := L20.same sd
        have R21 := R20.same sd
        have hT21 := fun z hz => (hT20 z hz).ext sd
        generalize upd H20 d (HO.xd [(("word" : Str), V.str "undo")]) = H21 at L21 R21 hT21
        refine ⟨_, rfl, _, rfl, ?_⟩
        intro r4 dx4 nr4 ndx4 nex4
        have s1 : Same H21 (upd (upd H21 dx4 (.own r4)) r4 (.ins C dx4 [])) := fun b o e => by
          rw [upd_ne (ne_of_none e nr4), upd_ne (ne_of_none e ndx4)]
          exact e
        refine ⟨r4, dx4, q, rfl, upd_same, fun D4 T4 H22 k22 nD4 nT4 DT4 hr4 hD4 hT4 => ⟨rfl, ?_⟩⟩
        have s22 : Same H21 H22 := fun b o e => k22 b o (ne_of_none e nr4) (s1 _ _ e)
        have L22 := L21.same s22
        obtain ⟨_, _, _, hpp, _⟩ := id L21.l.pen.ex
        have R4 := RoadAt.made (K := K) (p := p) hr4 hD4 hT4 (ne_of_none hpp nr4).symm DT4
        obtain ⟨dx2', ob2'⟩ := L22.two.ob
        refine ⟨⟨r2, dx2', _, rfl, ob2'⟩, ⟨r4, _, _, rfl, hr4⟩, r2, D2, T2, r4, D4, T4, q, q, [], es, [], [], M2, M3 p D4 T4, rfl, L22.two, R4, okn, okn, fun b H23 s23 says => ⟨b, rfl, ?_⟩⟩
        rw [says.2 rfl rfl]
        refine ⟨_, rfl, iteF ?_⟩
        have s13 := s22.trans s23
        exact ⟨rfl, fun z hz => (hT21 z hz).ext s13, L21.same s13, R21.same s13⟩
      rintro σ H20 ⟨rfl, hT20, L20, R20⟩
      clear hT19 L19 R19
      -- the one that was loaded before stands as it did
      refine ⟨fun σ H' => σ = [some (.ref a), some (.ref p), some (.int (0 + (i : Int))), some (.int q), some (.ref N), some (.ref A), some (.ref r), some (.ref t), y8, some (.ref W9), some (.ref G), some (.str (svT q ds)), some (.ref r2), some (.ref P1), some (.ref r3), y15, y16, y17, y18, y19, y20] ∧ LamX.Tabs [(Pt, ("law.<locals>." : Str) ++ "<lambda>")] H' ∧ L98b K C p c (2100 * i + 1029) M2 H' N ns2 r D T0 q ds bs r2 D2 T2 [] es, ?_, ?_⟩
      · obtain ⟨dx1, ob1⟩ := L20.l.road.ob
        obtain ⟨dx3, ob3⟩ := R20.ob
        refine ⟨_, rfl, _, rfl, ⟨r3, dx3, _, rfl, ob3⟩, ⟨r, dx1, _, rfl, ob1⟩, r3, D3, T3, r, D, T0, q, q, _, _, ds, bs, M2, M2, rfl, R20, L20.l.road, okl, okd, fun b H21 s21 says => ⟨b, rfl, ?_⟩⟩
        rw [says.2 rfl (ls_twice ds)]
        refine ⟨_, rfl, iteF ?_⟩
        have L21 := L20.same s21
        refine ⟨_, rfl, r3, D3, T3, q, _, _, M2, rfl, R20.same s21, q0, q97, okl, by omega, fun H22 s22 => ?_⟩
        rw [svT_ls]
        refine ⟨_, rfl, rfl, _, rfl, iteNS rfl ?_⟩
        have L22 := L21.same s22
        refine ⟨_, rfl, p, M2, q, ds, rfl, L22.l.mok, qp, tkd, by omega, fun r5 D5 T5 H23 s23 nr nD nT mok R5 => ?_⟩
        have L23 := L22.same s23
        obtain ⟨dx1', ob1'⟩ := L23.l.road.ob
        obtain ⟨dx5, ob5⟩ := R5.ob
        refine ⟨_, rfl, ⟨r5, dx5, _, rfl, ob5⟩, ⟨r, dx1', _, rfl, ob1'⟩, r5, D5, T5, r, D, T0, q, q, _, _, ds, bs, _, M2, rfl, R5, L23.l.road, okl, okd, fun b H24 s24 says => ⟨b, rfl, ?_⟩⟩
        rw [says.2 rfl (ls_twice ds)]
        refine ⟨_, rfl, iteF ?_⟩
        exact ⟨rfl, fun z hz => (((hT20 z hz).ext s21).ext (s22.trans s23)).ext s24, L23.same s24⟩
      rintro σ H21 ⟨rfl, hT21, L21⟩
      clear hT20 L20 R20
      -- the text of a new road
      · refine ⟨_, rfl, ?_⟩
        intro r4 dx4 nr4 ndx4 nex4
        have s1 : Same H21 (upd (upd H21 dx4 (.own r4)) r4 (.ins C dx4 [])) := fun b o e => by
          rw [upd_ne (ne_of_none e nr4), upd_ne (ne_of_none e ndx4)]
          exact e
        refine ⟨r4, dx4, q, rfl, upd_same, fun D4 T4 H22 k22 nD4 nT4 DT4 hr4 hD4 hT4 => ⟨rfl, ?_⟩⟩
        have s22 : Same H21 H22 := fun b o e => k22 b o (ne_of_none e nr4) (s1 _ _ e)
        obtain ⟨_, _, _, hpp, _⟩ := id L21.l.pen.ex
        have R4 := RoadAt.made (K := K) (p := p) hr4 hD4 hT4 (ne_of_none hpp nr4).symm DT4
        refine ⟨r4, D4, T4, q, [], [], _, rfl, R4, q0, q97, okn, Nat.zero_le _, fun H23 s23 => ?_⟩
        have hq : q.natAbs ≤ 10 ^ 30 := Nat.le_trans (show q.natAbs ≤ 97 by omega) (by decide +kernel)
        have lq := ct_short hq
        have l1 : ("prime " : Str).length = 6 := by decide +kernel
        refine ⟨_, rfl, q, rfl, lg_ct hq, _, _, rfl, rfl, by rw [l1]; exact sl_of (Nat.le_trans (Nat.add_le_add_left lq 6) (by decide)), ?_⟩
        refine ⟨rfl, _, rfl, iteNS (congrArg V.str ((sv_none q).trans (prL_plus q).symm)) ?_⟩
        have s13 := s22.trans s23
        have L23 := L21.same s13
        exact ⟨_, _, _, _, _, _, _, _, _, _, _, _, _, _, _, _, _, _, _, rfl, L23.l.pen.mono (by omega), fun z hz => (hT21 z hz).ext s13⟩
    · rintro σ H2 ⟨y2, y3, y4, y5, y6, y7, y8, y9, y10, y11, y12, y13, y14, y15, y16, y17, y18, y19, y20, rfl, pen2, hT2⟩
      exact k _
end
theorem tup_mk {K : PySem.W.Frag} {h : Heap} {mg : Str → Option Value} {x : Str} {a : Addr} {od : Option Addr} {its : Array Value} {n : Nat} {osl : Array (Option Value)} {ns : List Int} (X : K.In h) (G : h.Ns mainGlobals mg)
    (a1 : PySem.W.nsIn K mainGlobals x = some (some (.ref a))) (l : K.lookup a = some ⟨.type "tuple", od, .seq its n, osl⟩) (z : its.size ≤ sizeLine) (v : Vals (ns.map V.int) its.toList) : ∃ u, mg x = some u ∧ ∃ a, u = .ref a ∧ TupG K a ns :=
  ⟨_, PySem.W.mg_of X G a1, _, rfl, _, _, _, l, rfl, rfl, z, v⟩
theorem all_mk {l : PySem.W.OpenLaw} {w : World} {K : PySem.W.Frag} {mg : Str → Option Value} {fa : Addr} (hfa : mg "law" = some (.ref fa)) (B : Blt mg)
    (D_is_whole : Df K mg "is_whole" s_is_whole)
    (D_is_count : Df K mg "is_count" s_is_count)
    (D_is_step_or_turn : Df K mg "is_step_or_turn" s_is_step_or_turn)
    (D_begins_as_repeat : Df K mg "begins_as_repeat" s_begins_as_repeat)
    (D_sizes_of : Df K mg "sizes_of" s_sizes_of)
    (D_is_program : Df K mg "is_program" s_is_program)
    (D_copied : Df K mg "copied" s_copied)
    (D_with_lists : Df K mg "with_lists" s_with_lists)
    (D_tokens_of : Df K mg "tokens_of" s_tokens_of)
    (D_format_program : Df K mg "format_program" s_format_program)
    (D_count_of : Df K mg "count_of" s_count_of)
    (D_parse_program : Df K mg "parse_program" s_parse_program)
    (D_is_name : Df K mg "is_name" s_is_name)
    (D_copied_action : Df K mg "copied_action" s_copied_action)
    (D_plain_action : Df K mg "plain_action" s_plain_action)
    (D_line_of : Df K mg "line_of" s_line_of)
    (D_save : Df K mg "save" s_save)
    (D_new_road : Df K mg "new_road" s_new_road)
    (D_read_line : Df K mg "read_line" s_read_line)
    (D_load : Df K mg "load" s_load)
    (D__law_pen : Df K mg "_law_pen" s__law_pen)
    (D__law_draw : Df K mg "_law_draw" s__law_draw)
    (D__law_pick : Df K mg "_law_pick" s__law_pick)
    (D__law_prime : Df K mg "_law_prime" s__law_prime)
    (D__law_integer : Df K mg "_law_integer" s__law_integer)
    (D__law_word : Df K mg "_law_word" s__law_word)
    (D__law_body : Df K mg "_law_body" s__law_body)
    (D__law_calls : Df K mg "_law_calls" s__law_calls)
    (D__law_small_program : Df K mg "_law_small_program" s__law_small_program)
    (D__law_deep_program : Df K mg "_law_deep_program" s__law_deep_program)
    (D__law_history : Df K mg "_law_history" s__law_history)
    (D__law_act : Df K mg "_law_act" s__law_act)
    (D__law_plain_program : Df K mg "_law_plain_program" s__law_plain_program)
    (D__law_program_text : Df K mg "_law_program_text" s__law_program_text)
    (D__law_road_text : Df K mg "_law_road_text" s__law_road_text)
    (D__law_is_empty : Df K mg "_law_is_empty" s__law_is_empty)
    (G_GREATEST_COUNT : ∃ u, mg "GREATEST_COUNT" = some u ∧ ∃ tk, u = Value.int 1000000000000000000000000000000 tk)
    (G_MOST_INSTRUCTIONS : ∃ u, mg "MOST_INSTRUCTIONS" = some u ∧ ∃ tk, u = Value.int 100 tk)
    (G_MOST_REPEATS : ∃ u, mg "MOST_REPEATS" = some u ∧ ∃ tk, u = Value.int 5 tk)
    (G_DEEPEST : ∃ u, mg "DEEPEST" = some u ∧ ∃ tk, u = Value.int 2 tk)
    (G_DIGITS : ∃ u, mg "DIGITS" = some u ∧ ∃ tk, u = Value.str "0123456789" tk)
    (G_LONGEST_NUMBER : ∃ u, mg "LONGEST_NUMBER" = some u ∧ ∃ tk, u = Value.int 31 tk)
    (G_LETTERS : ∃ u, mg "LETTERS" = some u ∧ ∃ tk, u = Value.str "abcdefghijklmnopqrstuvwxyz" tk)
    (G_LONGEST_NAME : ∃ u, mg "LONGEST_NAME" = some u ∧ ∃ tk, u = Value.int 8 tk)
    (G_PRIMES : ∃ u, mg "PRIMES" = some u ∧ ∃ a, u = .ref a ∧ TupG K a primesL)
    (G_MOST_RUNS : ∃ u, mg "MOST_RUNS" = some u ∧ ∃ tk, u = Value.int 200 tk)
    (ZY : ∃ CR CI C CN, RdRaw K mg CR ∧ TxRaw K mg CI ∧ RoRaw K mg C ∧ LeftRaw K mg CN ∧ PySem.W.exmOne K (.ref CN) (.ref CN) = some true)
    (D_law : DfC K mg "law" s_law c) : ∃ fd : FuncData, (∀ (s : Shared) (v : Value), BindsTo s fd ⟨[v], []⟩ [("_law_script", v)]) ∧ ∀ base : Heap, K.In base → base.Ns mainGlobals mg → Sys base → (∀ t ∈ [(c, Pt)], LamX.TabB base mg t.1 t.2) → Kept l.prog w K mg base fa fd ["_law_script"] (sp_lawT Pt K) := by
  obtain ⟨_, G_GREATEST_COUNT, tk_G_GREATEST_COUNT, rfl⟩ := G_GREATEST_COUNT
  obtain ⟨_, G_MOST_INSTRUCTIONS, tk_G_MOST_INSTRUCTIONS, rfl⟩ := G_MOST_INSTRUCTIONS
  obtain ⟨_, G_MOST_REPEATS, tk_G_MOST_REPEATS, rfl⟩ := G_MOST_REPEATS
  obtain ⟨_, G_DEEPEST, tk_G_DEEPEST, rfl⟩ := G_DEEPEST
  obtain ⟨_, G_DIGITS, tk_G_DIGITS, rfl⟩ := G_DIGITS
  obtain ⟨_, G_LONGEST_NUMBER, tk_G_LONGEST_NUMBER, rfl⟩ := G_LONGEST_NUMBER
  obtain ⟨_, G_LETTERS, tk_G_LETTERS, rfl⟩ := G_LETTERS
  obtain ⟨_, G_LONGEST_NAME, tk_G_LONGEST_NAME, rfl⟩ := G_LONGEST_NAME
  obtain ⟨_, GP1, _, rfl, GP2⟩ := G_PRIMES
  have G_PRIMES := And.intro GP1 GP2
  obtain ⟨_, G_MOST_RUNS, tk_G_MOST_RUNS, rfl⟩ := G_MOST_RUNS
  obtain ⟨CR, CI, C, CN, RR, Z0, R, NR, NX⟩ := ZY
  refine law_ofT hfa D_law (fun _ _ _ _ _ _ s v => .of_eq rfl) fun base hb TB f fd F => ?_
  have C_is_whole : Cal l.prog w K mg base 1 "is_whole" (sp_is_whole K) := cal_of (ps := ["value"]) D_is_whole (fun _ _ _ _ _ _ us hl => match us, hl with | [_], _ => rfl) fun f fd F => ok_is_whole F B
  have C_is_count : Cal l.prog w K mg base 2 "is_count" (sp_is_count K) := cal_of (ps := ["value"]) D_is_count (fun _ _ _ _ _ _ us hl => match us, hl with | [_], _ => rfl) fun f fd F => ok_is_count F B G_GREATEST_COUNT C_is_whole
  have C_is_countZ : Cal l.prog w K mg base 2 "is_count" sp_is_countZ := cal_of (ps := ["value"]) D_is_count (fun _ _ _ _ _ _ us hl => match us, hl with | [_], _ => rfl) fun f fd F => ok_is_countZ F B G_GREATEST_COUNT C_is_whole
  have C_is_step_or_turn : Cal l.prog w K mg base 3 "is_step_or_turn" (sp_is_step_or_turn K) := cal_of (ps := ["value"]) D_is_step_or_turn (fun _ _ _ _ _ _ us hl => match us, hl with | [_], _ => rfl) fun f fd F => ok_is_step_or_turn F B C_is_count
  have C_begins_as_repeat : Cal l.prog w K mg base 3 "begins_as_repeat" (sp_begins_as_repeat K) := cal_of (ps := ["value"]) D_begins_as_repeat (fun _ _ _ _ _ _ us hl => match us, hl with | [_], _ => rfl) fun f fd F => ok_begins_as_repeat F B C_is_count
  have C_sizes_of : Cal l.prog w K mg base (3 + 3) "sizes_of" (sp_sizes_of K 3) := cal_rec (ps := ["value", "depth"]) 3 (sp := sp_sizes_of K) D_sizes_of (fun _ _ _ _ _ _ us hl => match us, hl with | [_, _], _ => rfl) (fun vs H Q E h => by obtain ⟨_, _, _, _, _, z, _⟩ := h; exact absurd z (Nat.not_lt_zero _)) (fun k C f fd F => ok_sizes_of k C F B G_MOST_INSTRUCTIONS G_MOST_REPEATS C_is_step_or_turn C_begins_as_repeat) 3
  have C_is_program : Cal l.prog w K mg base 7 "is_program" (sp_is_program K) := cal_of (ps := ["value"]) D_is_program (fun _ _ _ _ _ _ us hl => match us, hl with | [_], _ => rfl) fun f fd F => ok_is_program F B G_DEEPEST C_sizes_of
  have C_copied : Cal l.prog w K mg base (3 + 0) "copied" (sp_copied K 3) := cal_rec (ps := ["program"]) 0 (sp := sp_copied K) D_copied (fun _ _ _ _ _ _ us hl => match us, hl with | [_], _ => rfl) (fun vs H Q E h => by obtain ⟨_, _, _, _, _, _, z, _⟩ := h; exact absurd z (Nat.not_lt_zero _)) (fun k C f fd F => ok_copied k C F B) 3
  have C_with_lists : Cal l.prog w K mg base (3 + 0) "with_lists" (sp_with_lists K 3) := cal_rec (ps := ["program"]) 0 (sp := sp_with_lists K) D_with_lists (fun _ _ _ _ _ _ us hl => match us, hl with | [_], _ => rfl) (fun vs H Q E h => by obtain ⟨_, _, _, _, _, _, z, _⟩ := h; exact absurd z (Nat.not_lt_zero _)) (fun k C f fd F => ok_with_lists k C F B) 3
  have C_tokens_of : Cal l.prog w K mg base (3 + 0) "tokens_of" (sp_tokens_of K 3) := cal_rec (ps := ["program"]) 0 (sp := sp_tokens_of K) D_tokens_of (fun _ _ _ _ _ _ us hl => match us, hl with | [_], _ => rfl) (fun vs H Q E h => by obtain ⟨_, _, _, _, z, _⟩ := h; exact absurd z (Nat.not_lt_zero _)) (fun k C f fd F => ok_tokens_of k C F B) 3
  have C_format_program : Cal l.prog w K mg base 4 "format_program" (sp_format_program K) := cal_of (ps := ["program"]) D_format_program (fun _ _ _ _ _ _ us hl => match us, hl with | [_], _ => rfl) fun f fd F => ok_format_program F B C_tokens_of
  have C_count_of : Cal l.prog w K mg base 3 "count_of" sp_count_of := cal_of (ps := ["token"]) D_count_of (fun _ _ _ _ _ _ us hl => match us, hl with | [_], _ => rfl) fun f fd F => ok_count_of F B G_DIGITS G_LONGEST_NUMBER C_is_countZ
  have TR := RR.cl
  have ZT : TxtF l.prog w K mg base CI := tx_of Z0
  have MK_Reader : MkF l.prog w K mg base "Reader" CR 1 (sp_reader CR) := mkR_of RR
  have M_has_ended : MetC CX0 l.prog w K mg base CR 1 "has_ended" (sp_has_ended CR) := met_of (ps := ["self"]) RR.d1 (fun _ _ _ _ _ _ us hl => match us, hl with | [_], _ => rfl) fun f fd F => ok_Reader_has_ended F B TR
  have M_token : MetC (L2.CX l.prog w) l.prog w K mg base CR 3 "token" (sp_token CR CI) := met_of (ps := ["self"]) RR.d2 (fun _ _ _ _ _ _ us hl => match us, hl with | [_], _ => rfl) fun f fd F => ok_Reader_token F B TR ZT M_has_ended
  have M_read_word : MetC (L2.CX l.prog w) l.prog w K mg base CR 4 "read_word" (sp_read_word CR CI) := met_of (ps := ["self", "depth"]) RR.d3 (fun _ _ _ _ _ _ us hl => match us, hl with | [_, _], _ => rfl) fun f fd F => ok_Reader_read_word F B TR ZT G_MOST_INSTRUCTIONS G_DEEPEST G_MOST_REPEATS M_token
  have M_read_count : MetC (L2.CX l.prog w) l.prog w K mg base CR 4 "read_count" (sp_read_count CR CI) := met_of (ps := ["self", "least"]) RR.d4 (fun _ _ _ _ _ _ us hl => match us, hl with | [_, _], _ => rfl) fun f fd F => ok_Reader_read_count F B TR ZT M_token C_count_of
  have M_read_bracket : MetC (L2.CX l.prog w) l.prog w K mg base CR 4 "read_bracket" (sp_read_bracket CR CI) := met_of (ps := ["self"]) RR.d5 (fun _ _ _ _ _ _ us hl => match us, hl with | [_], _ => rfl) fun f fd F => ok_Reader_read_bracket F B TR ZT M_token
  have M_read_instruction : MetC (L2.CX l.prog w) l.prog w K mg base CR (3 + 5) "read_instruction" (sp_read_instruction K CR CI 3) := met_rec (ps := ["self", "depth"]) 5 (sp := sp_read_instruction K CR CI) RR.d6 (fun _ _ _ _ _ _ us hl => match us, hl with | [_, _], _ => rfl) (fun vs H Q E h => by obtain ⟨_, _, _, _, _, z, _⟩ := h; exact absurd z (Nat.not_lt_zero _)) (fun k M f fd F => ok_Reader_read_instruction k M F B TR ZT G_GREATEST_COUNT M_token M_read_word M_read_count M_read_bracket) 3
  have C_parse_program : CalE l.prog w K mg base 9 "parse_program" (sp_parse_program K CI) := cal_ofE (ps := ["text"]) D_parse_program (fun _ _ _ _ _ _ us hl => match us, hl with | [_], _ => rfl) fun f fd F => ok_parse_program F B (TR) (ZT) MK_Reader M_has_ended M_read_instruction
  have C_is_name : Cal l.prog w K mg base 1 "is_name" sp_is_name := cal_of (ps := ["value"]) D_is_name (fun _ _ _ _ _ _ us hl => match us, hl with | [_], _ => rfl) fun f fd F => ok_is_name F B G_LETTERS G_LONGEST_NAME
  have C_copied_action : Cal l.prog w K mg base 4 "copied_action" (sp_copied_action K) := cal_of (ps := ["action"]) D_copied_action (fun _ _ _ _ _ _ us hl => match us, hl with | [_], _ => rfl) fun f fd F => ok_copied_action F B C_copied
  have C_plain_action : Cal l.prog w K mg base 4 "plain_action" (sp_plain_action K) := cal_of (ps := ["action"]) D_plain_action (fun _ _ _ _ _ _ us hl => match us, hl with | [_], _ => rfl) fun f fd F => ok_plain_action F B C_with_lists
  have T := R.cl
  have MK_Road : MkF l.prog w K mg base "Road" C 1 (sp_road C) := mkRo_of R
  have M_perform : MetC CX0 l.prog w K mg base C 1 "perform" (sp_perform K C) := met_of (ps := ["self", "action"]) R.m_perform (fun _ _ _ _ _ _ us hl => match us, hl with | [_, _], _ => rfl) fun f fd F => ok_Road_perform F T
  have M_has_walker : MetC CX0 l.prog w K mg base C 1 "has_walker" (sp_has_walker K C) := met_of (ps := ["self", "name"]) R.m_has_walker (fun _ _ _ _ _ _ us hl => match us, hl with | [_, _], _ => rfl) fun f fd F => ok_Road_has_walker F T
  have M_enter : MetC CX0 l.prog w K mg base C 3 "enter" (sp_enter K C) := met_of (ps := ["self", "name", "place"]) R.m_enter (fun _ _ _ _ _ _ us hl => match us, hl with | [_, _, _], _ => rfl) fun f fd F => ok_Road_enter F B T C_is_name C_is_countZ M_has_walker M_perform
  have M_run : MetC CX0 l.prog w K mg base C 8 "run" (sp_run K C) := met_of (ps := ["self", "name", "program"]) R.m_run (fun _ _ _ _ _ _ us hl => match us, hl with | [_, _, _], _ => rfl) fun f fd F => ok_Road_run F B T C_is_program C_copied M_has_walker M_perform
  have M_undo : MetC CX0 l.prog w K mg base C 5 "undo" (sp_undo K C) := met_of (ps := ["self"]) R.m_undo (fun _ _ _ _ _ _ us hl => match us, hl with | [_], _ => rfl) fun f fd F => ok_Road_undo F B T C_copied_action
  have M_redo : MetC CX0 l.prog w K mg base C 5 "redo" (sp_redo K C) := met_of (ps := ["self"]) R.m_redo (fun _ _ _ _ _ _ us hl => match us, hl with | [_], _ => rfl) fun f fd F => ok_Road_redo F B T C_copied_action
  have M_actions : MetC CX0 l.prog w K mg base C 5 "actions" (sp_actions K C) := met_of (ps := ["self"]) R.m_actions (fun _ _ _ _ _ _ us hl => match us, hl with | [_], _ => rfl) fun f fd F => ok_Road_actions F B T C_copied_action
  have M___eq__ : MetC CX0 l.prog w K mg base C 5 "__eq__" (sp_road_eq K C) := met_of (ps := ["self", "other"]) R.m___eq__ (fun _ _ _ _ _ _ us hl => match us, hl with | [_, _], _ => rfl) fun f fd F => ok_Road___eq__ F B T (R.z) C_plain_action
  have NZ : LeftF l.prog w K mg base CN := left_of NR
  have M_undoN : MetC (L2.CX l.prog w) l.prog w K mg base C 5 "undo" (sp_undoN K C CN) := met_of (ps := ["self"]) R.m_undo (fun _ _ _ _ _ _ us hl => match us, hl with | [_], _ => rfl) fun f fd F => ok_Road_undoN F B T NZ C_copied_action
  have M_redoN : MetC (L2.CX l.prog w) l.prog w K mg base C 5 "redo" (sp_redoN K C CN) := met_of (ps := ["self"]) R.m_redo (fun _ _ _ _ _ _ us hl => match us, hl with | [_], _ => rfl) fun f fd F => ok_Road_redoN F B T NZ C_copied_action
  have C_line_of : Cal l.prog w K mg base 5 "line_of" (sp_line_of K) := cal_of (ps := ["action"]) D_line_of (fun _ _ _ _ _ _ us hl => match us, hl with | [_], _ => rfl) fun f fd F => ok_line_of F B C_format_program
  have C_save : Cal l.prog w K mg base 6 "save" (sp_save K C) := cal_of (ps := ["road"]) D_save (fun _ _ _ _ _ _ us hl => match us, hl with | [_], _ => rfl) fun f fd F => ok_save F B (T) M_actions C_line_of
  have C_new_road : Cal l.prog w K mg base 3 "new_road" (sp_new_road C) := cal_of (ps := ["line"]) D_new_road (fun _ _ _ _ _ _ us hl => match us, hl with | [_], _ => rfl) fun f fd F => ok_new_road F B MK_Road G_PRIMES
  have C_read_line : Cal l.prog w K mg base 10 "read_line" (sp_read_line K C) := cal_of (ps := ["road", "position", "line"]) D_read_line (fun _ _ _ _ _ _ us hl => match us, hl with | [_, _, _], _ => rfl) fun f fd F => ok_read_line F B (T) M_enter M_run C_count_of C_parse_program
  have C_load : Cal l.prog w K mg base 11 "load" (sp_load K C) := cal_of (ps := ["text"]) D_load (fun _ _ _ _ _ _ us hl => match us, hl with | [_], _ => rfl) fun f fd F => ok_load F B C_new_road C_read_line G_MOST_RUNS
  have C__law_pen : Cal l.prog w K mg base 1 "_law_pen" (sp__law_pen K) := cal_of (ps := ["_law_script"]) D__law_pen (fun _ _ _ _ _ _ us hl => match us, hl with | [_], _ => rfl) fun f fd F => ok__law_pen F B
  have C__law_draw : Cal l.prog w K mg base 1 "_law_draw" sp__law_draw := cal_of (ps := ["_law_pen_here", "_law_many"]) D__law_draw (fun _ _ _ _ _ _ us hl => match us, hl with | [_, _], _ => rfl) fun f fd F => ok__law_draw F B
  have C__law_pick : Cal l.prog w K mg base 2 "_law_pick" sp__law_pick := cal_of (ps := ["_law_pen_here", "_law_options"]) D__law_pick (fun _ _ _ _ _ _ us hl => match us, hl with | [_, _], _ => rfl) fun f fd F => ok__law_pick F B C__law_draw
  have C__law_pickS : Cal l.prog w K mg base 2 "_law_pick" sp__law_pickS := cal_of (ps := ["_law_pen_here", "_law_options"]) D__law_pick (fun _ _ _ _ _ _ us hl => match us, hl with | [_, _], _ => rfl) fun f fd F => ok__law_pickS F B C__law_draw
  have C__law_prime : Cal l.prog w K mg base 3 "_law_prime" sp__law_prime := cal_of (ps := ["_law_pen_here"]) D__law_prime (fun _ _ _ _ _ _ us hl => match us, hl with | [_], _ => rfl) fun f fd F => ok__law_prime F B C__law_pick
  have C__law_integer : Cal l.prog w K mg base 2 "_law_integer" sp__law_integer := cal_of (ps := ["_law_pen_here", "_law_most"]) D__law_integer (fun _ _ _ _ _ _ us hl => match us, hl with | [_, _], _ => rfl) fun f fd F => ok__law_integer F B C__law_draw
  have C__law_word : Cal l.prog w K mg base 3 "_law_word" sp__law_word := cal_of (ps := ["_law_pen_here"]) D__law_word (fun _ _ _ _ _ _ us hl => match us, hl with | [_], _ => rfl) fun f fd F => ok__law_word F B C__law_draw C__law_pickS
  have C__law_body : Cal l.prog w K mg base 3 "_law_body" (sp__law_bodyG K) := cal_of (ps := ["_law_pen_here", "_law_most", "_law_reach"]) D__law_body (fun _ _ _ _ _ _ us hl => match us, hl with | [_, _, _], _ => rfl) fun f fd F => ok__law_body F B C__law_draw C__law_pick C__law_integer
  have C__law_calls : Cal l.prog w K mg base 4 "_law_calls" sp__law_calls := cal_of (ps := ["_law_pen_here", "_law_many"]) D__law_calls (fun _ _ _ _ _ _ us hl => match us, hl with | [_, _], _ => rfl) fun f fd F => ok__law_calls F B C__law_draw C__law_pick C__law_word
  have C__law_small_program : Cal l.prog w K mg base 4 "_law_small_program" (sp__law_small_programX K) := cal_of (ps := ["_law_pen_here"]) D__law_small_program (fun _ _ _ _ _ _ us hl => match us, hl with | [_], _ => rfl) fun f fd F => ok__law_small_program F B C__law_draw C__law_pick C__law_body
  have C__law_deep_program : Cal l.prog w K mg base 5 "_law_deep_program" (sp__law_deep_program K) := cal_of (ps := ["_law_pen_here"]) D__law_deep_program (fun _ _ _ _ _ _ us hl => match us, hl with | [_], _ => rfl) fun f fd F => ok__law_deep_program F B C__law_draw C__law_pick C__law_body C__law_small_program
  have C__law_history : Cal l.prog w K mg base 6 "_law_history" (sp__law_historyD K) := cal_of (ps := ["_law_pen_here", "_law_names", "_law_most", "_law_is_deep"]) D__law_history (fun _ _ _ _ _ _ us hl => match us, hl with | [_, _, _, _], _ => rfl) fun f fd F => ok__law_history F B C__law_draw C__law_pick C__law_integer (C__law_small_program.wk small_imp) C__law_deep_program
  have C__law_act : Cal l.prog w K mg base 9 "_law_act" (sp__law_act K C) := cal_of (ps := ["_law_road", "_law_action"]) D__law_act (fun _ _ _ _ _ _ us hl => match us, hl with | [_, _], _ => rfl) fun f fd F => ok__law_act F B (T) M_enter M_run
  have C__law_plain_program : Cal l.prog w K mg base (3 + 0) "_law_plain_program" (sp_with_lists K 3) := cal_rec (ps := ["_law_program"]) 0 (sp := sp_with_lists K) D__law_plain_program (fun _ _ _ _ _ _ us hl => match us, hl with | [_], _ => rfl) (fun vs H Q E h => by obtain ⟨_, _, _, _, _, _, z, _⟩ := h; exact absurd z (Nat.not_lt_zero _)) (fun k C f fd F => ok__law_plain_program k C F B) 3
  have C__law_program_text : Cal l.prog w K mg base (3 + 0) "_law_program_text" (sp__law_text K 3) := cal_rec (ps := ["_law_program"]) 0 (sp := sp__law_text K) D__law_program_text (fun _ _ _ _ _ _ us hl => match us, hl with | [_], _ => rfl) (fun vs H Q E h => by obtain ⟨_, _, _, _, z, _⟩ := h; exact absurd z (Nat.not_lt_zero _)) (fun k C f fd F => ok__law_program_text k C F B) 3
  have C__law_road_text : Cal l.prog w K mg base 5 "_law_road_text" (sp__law_road_text K) := cal_of (ps := ["_law_prime_here", "_law_actions"]) D__law_road_text (fun _ _ _ _ _ _ us hl => match us, hl with | [_, _], _ => rfl) fun f fd F => ok__law_road_text F B C__law_program_text
  exact law_ok F TB B hb C__law_pen C__law_draw C__law_integer C__law_prime C__law_calls C__law_history C__law_act C__law_road_text C__law_plain_program C_save C_load T (R.z) (D__law_is_empty) (NZ) (NX) MK_Road M___eq__ M_undo M_undoN M_redoN M_actions
end DR
open PySem PySem.W PyProof.Rows
set_option maxRecDepth 100000 in
set_option maxHeartbeats 0 in
theorem PySem.Challenge.cw_dialroad_k96_roads_saved_and_loaded_holds : PySem.Challenge.rw_dialroad_k96_roads_saved_and_loaded.Holds := by
  w_on; o_law; k_head; (case hw => w_witness2)
  k_fill
  refine' DR.walk_keptT (l := PySem.Challenge.rw_dialroad_k96_roads_saved_and_loaded) (cs := [(?cc, ?PP)]) (sp := DR.sp_lawT ?PP) (x := "_law_script") rfl rfl rfl (fun w h Y => PySem.W.km_in_of Y) (fun w h Y => List.forall_mem_cons.mpr ⟨PySem.W.km_tabs_of Y _ List.mem_cons_self, fun _ z => nomatch z⟩) ?HO ?HC ?F fun K H a ns hl hT hS => ⟨a, ns, rfl, hT _ List.mem_cons_self, hS, hl, fun _ => rfl⟩
  case HO => exact fun w => List.forall_mem_cons.mpr ⟨by kernel_rfl, fun _ z => nomatch z⟩
  case HC => exact fun w => List.forall_mem_cons.mpr ⟨by kernel_rfl, fun _ z => nomatch z⟩
  case F =>
    intro w mg fa h KX G hmg
    refine' DR.all_mk hmg ⟨PySem.W.mg_none_of KX G ?z_tuple, PySem.W.mg_none_of KX G ?z_sorted, PySem.W.mg_none_of KX G ?z_range, PySem.W.mg_none_of KX G ?z_list, PySem.W.mg_none_of KX G ?z_len, PySem.W.mg_none_of KX G ?z_abs, PySem.W.mg_none_of KX G ?z_repr, PySem.W.mg_none_of KX G ?z_int, PySem.W.mg_none_of KX G ?z_bool, PySem.W.mg_none_of KX G ?z_dict, PySem.W.mg_none_of KX G ?z_min, PySem.W.mg_none_of KX G ?z_max, PySem.W.mg_none_of KX G ?z_zip, PySem.W.mg_none_of KX G ?z_all, PySem.W.mg_none_of KX G ?z_isinstance, PySem.W.mg_none_of KX G ?z_sum, PySem.W.mg_none_of KX G ?z_any, PySem.W.mg_none_of KX G ?z_str, PySem.W.mg_none_of KX G ?z_set, PySem.W.mg_none_of KX G ?z_reversed, PySem.W.mg_none_of KX G ?z_enumerate⟩ ?D_is_whole ?D_is_count ?D_is_step_or_turn ?D_begins_as_repeat ?D_sizes_of ?D_is_program ?D_copied ?D_with_lists ?D_tokens_of ?D_format_program ?D_count_of ?D_parse_program ?D_is_name ?D_copied_action ?D_plain_action ?D_line_of ?D_save ?D_new_road ?D_read_line ?D_load ?D__law_pen ?D__law_draw ?D__law_pick ?D__law_prime ?D__law_integer ?D__law_word ?D__law_body ?D__law_calls ?D__law_small_program ?D__law_deep_program ?D__law_history ?D__law_act ?D__law_plain_program ?D__law_program_text ?D__law_road_text ?D__law_is_empty ?G_GREATEST_COUNT ?G_MOST_INSTRUCTIONS ?G_MOST_REPEATS ?G_DEEPEST ?G_DIGITS ?G_LONGEST_NUMBER ?G_LETTERS ?G_LONGEST_NAME ?G_PRIMES ?G_MOST_RUNS ?ZY ?D_law
    (case G_GREATEST_COUNT => refine' ⟨?u0, PySem.W.mg_of KX G ?gz0, ?gy0⟩; (case gz0 => k_is); (case gy0 => exact ⟨_, rfl⟩))
    (case G_MOST_INSTRUCTIONS => refine' ⟨?u1, PySem.W.mg_of KX G ?gz1, ?gy1⟩; (case gz1 => k_is); (case gy1 => exact ⟨_, rfl⟩))
    (case G_MOST_REPEATS => refine' ⟨?u2, PySem.W.mg_of KX G ?gz2, ?gy2⟩; (case gz2 => k_is); (case gy2 => exact ⟨_, rfl⟩))
    (case G_DEEPEST => refine' ⟨?u3, PySem.W.mg_of KX G ?gz3, ?gy3⟩; (case gz3 => k_is); (case gy3 => exact ⟨_, rfl⟩))
    (case G_DIGITS => refine' ⟨?u4, PySem.W.mg_of KX G ?gz4, ?gy4⟩; (case gz4 => k_is); (case gy4 => exact ⟨_, rfl⟩))
    (case G_LONGEST_NUMBER => refine' ⟨?u5, PySem.W.mg_of KX G ?gz5, ?gy5⟩; (case gz5 => k_is); (case gy5 => exact ⟨_, rfl⟩))
    (case G_LETTERS => refine' ⟨?u6, PySem.W.mg_of KX G ?gz6, ?gy6⟩; (case gz6 => k_is); (case gy6 => exact ⟨_, rfl⟩))
    (case G_LONGEST_NAME => refine' ⟨?u7, PySem.W.mg_of KX G ?gz7, ?gy7⟩; (case gz7 => k_is); (case gy7 => exact ⟨_, rfl⟩))
    (case G_PRIMES => refine' DR.tup_mk KX G ?pa ?pl ?pz ?pv; (case pa => k_is); (case pl => k_is); (case pz => decide); (case pv => (repeat (first | exact .nil | refine .cons ⟨_, rfl⟩ ?_))))
    (case G_MOST_RUNS => refine' ⟨?u9, PySem.W.mg_of KX G ?gz9, ?gy9⟩; (case gz9 => k_is); (case gy9 => exact ⟨_, rfl⟩))
    (case ZY => refine' ⟨?CR, ?CI, ?C, ?CN, ⟨⟨⟨?rp, ?rh, ?ro, ?rs⟩, DR.no_attr ?ra, DR.no_attr ?rb, DR.no_attr ?rc, DR.no_attr ?rd, PySem.W.mg_of KX G ?rg⟩, ⟨?mf, _, ⟨?m1, ?m2, ?m3, ?m4⟩, L2.fun_mk (st := DR.s_Reader___init__) ?ml ?mc ?mk⟩, ⟨⟨?q0f, _, L2.fun_mk (st := DR.s_Reader_has_ended) ?q0l ?q0c ?q0k, ⟨?q0a, ?q0b, ?q0d⟩⟩⟩, ⟨⟨?q1f, _, L2.fun_mk (st := DR.s_Reader_token) ?q1l ?q1c ?q1k, ⟨?q1a, ?q1b, ?q1d⟩⟩⟩, ⟨⟨?q2f, _, L2.fun_mk (st := DR.s_Reader_read_word) ?q2l ?q2c ?q2k, ⟨?q2a, ?q2b, ?q2d⟩⟩⟩, ⟨⟨?q3f, _, L2.fun_mk (st := DR.s_Reader_read_count) ?q3l ?q3c ?q3k, ⟨?q3a, ?q3b, ?q3d⟩⟩⟩, ⟨⟨?q4f, _, L2.fun_mk (st := DR.s_Reader_read_bracket) ?q4l ?q4c ?q4k, ⟨?q4a, ?q4b, ?q4d⟩⟩⟩, ⟨⟨?q5f, _, L2.fun_mk (st := DR.s_Reader_read_instruction) ?q5l ?q5c ?q5k, ⟨?q5a, ?q5b, ?q5d⟩⟩⟩⟩, ⟨PySem.W.mg_of KX G ?z1, ⟨PySem.F.excBase_ValueError, PySem.F.store_ValueError, ?i1, ?i2, ⟨?o1, ?o2⟩, ⟨?s1, ?s2, ?s3⟩, ?b1, ?t1⟩, ?n1, ⟨?fI, _, ?f1, ?f2, L2.fun_mk (st := DR.s_InvalidText___init__) ?l1 ?l2 ?l3⟩⟩, ⟨⟨⟨?wrp, ?wrh, ?wro, ?wrs⟩, DR.no_attr ?wra, DR.no_attr ?wrb, DR.no_attr ?wrc, PySem.W.mg_of KX G ?wrg⟩, ⟨?wmf, _, ⟨?wm1, ?wm2, ?wm3, ?wm4⟩, L2.fun_mk (st := DR.s_Road___init__) ?wml ?wmc ?wmk⟩, ⟨?wzn, ⟨⟨?wzp, ?wzh, ?wzo, ?wzs⟩, ?wza, ?wzb, ?wzc, ?wzm, ?wze⟩⟩, ⟨⟨?wq0f, _, L2.fun_mk (st := DR.s_Road_perform) ?wq0l ?wq0c ?wq0k, ⟨?wq0a, ?wq0b, ?wq0e⟩⟩⟩, ⟨⟨?wq1f, _, L2.fun_mk (st := DR.s_Road_has_walker) ?wq1l ?wq1c ?wq1k, ⟨?wq1a, ?wq1b, ?wq1e⟩⟩⟩, ⟨⟨?wq2f, _, L2.fun_mk (st := DR.s_Road_enter) ?wq2l ?wq2c ?wq2k, ⟨?wq2a, ?wq2b, ?wq2e⟩⟩⟩, ⟨⟨?wq3f, _, L2.fun_mk (st := DR.s_Road_run) ?wq3l ?wq3c ?wq3k, ⟨?wq3a, ?wq3b, ?wq3e⟩⟩⟩, ⟨⟨?wq4f, _, L2.fun_mk (st := DR.s_Road_undo) ?wq4l ?wq4c ?wq4k, ⟨?wq4a, ?wq4b, ?wq4e⟩⟩⟩, ⟨⟨?wq5f, _, L2.fun_mk (st := DR.s_Road_redo) ?wq5l ?wq5c ?wq5k, ⟨?wq5a, ?wq5b, ?wq5e⟩⟩⟩, ⟨⟨?wq6f, _, L2.fun_mk (st := DR.s_Road_actions) ?wq6l ?wq6c ?wq6k, ⟨?wq6a, ?wq6b, ?wq6e⟩⟩⟩, ⟨⟨?wq7f, _, L2.fun_mk (st := DR.s_Road___eq__) ?wq7l ?wq7c ?wq7k, ⟨?wq7a, ?wq7b, ?wq7e⟩⟩⟩⟩, ⟨PySem.W.mg_of KX G ?nz1, ⟨PySem.F.excBase_LookupError, PySem.F.store_LookupError, ?ni1, ?ni2, ⟨?no1, ?no2⟩, ⟨?ns1, ?ns2, ?ns3⟩, ?nb1, ?nt1⟩, ?nn1, ⟨?nfI, _, ?nf1, ?nf2, L2.fun_mk (st := DR.s___init_N) ?nl1 ?nl2 ?nl3⟩⟩, ?nx⟩; (case nz1 => k_is); (case ni1 => kx_is); (case ni2 => kx_is); (case no1 => k_is); (case no2 => k_is); (case ns1 => k_is); (case ns2 => k_is); (case ns3 => k_is); (case nb1 => k_is); (case nt1 => k_is); (case nn1 => k_is); (case nf1 => k_is); (case nf2 => k_is); (case nl1 => k_is); (case nl2 => k_is); (case nl3 => k_is); (case nx => kts_exm); (case rg => k_is); (case rp => k_is); (case rh => k_is); (case ro => k_is); (case rs => k_is); (case ra => k_is); (case rb => k_is); (case rc => k_is); (case rd => k_is); (case m1 => k_is); (case m2 => k_is); (case m3 => k_is); (case m4 => k_is); (case ml => k_is); (case mc => k_is); (case mk => k_is); (case q0a => k_is); (case q0b => k_is); (case q0d => k_is); (case q0l => k_is); (case q0c => k_is); (case q0k => k_is); (case q1a => k_is); (case q1b => k_is); (case q1d => k_is); (case q1l => k_is); (case q1c => k_is); (case q1k => k_is); (case q2a => k_is); (case q2b => k_is); (case q2d => k_is); (case q2l => k_is); (case q2c => k_is); (case q2k => k_is); (case q3a => k_is); (case q3b => k_is); (case q3d => k_is); (case q3l => k_is); (case q3c => k_is); (case q3k => k_is); (case q4a => k_is); (case q4b => k_is); (case q4d => k_is); (case q4l => k_is); (case q4c => k_is); (case q4k => k_is); (case q5a => k_is); (case q5b => k_is); (case q5d => k_is); (case q5l => k_is); (case q5c => k_is); (case q5k => k_is); (case z1 => k_is); (case i1 => kx_is); (case i2 => kx_is); (case o1 => k_is); (case o2 => k_is); (case s1 => k_is); (case s2 => k_is); (case s3 => k_is); (case b1 => k_is); (case t1 => k_is); (case n1 => k_is); (case f1 => k_is); (case f2 => k_is); (case l1 => k_is); (case l2 => k_is); (case l3 => k_is); (case wrg => k_is); (case wrp => k_is); (case wrh => k_is); (case wro => k_is); (case wrs => k_is); (case wra => k_is); (case wrb => k_is); (case wrc => k_is); (case wm1 => k_is); (case wm2 => k_is); (case wm3 => k_is); (case wm4 => k_is); (case wml => k_is); (case wmc => k_is); (case wmk => k_is); (case wzn => k_is); (case wzp => k_is); (case wzh => k_is); (case wzo => k_is); (case wzs => k_is); (case wza => k_is); (case wzb => k_is); (case wzc => k_is); (case wzm => k_is); (case wq0a => k_is); (case wq0b => k_is); (case wq0e => k_is); (case wq0l => k_is); (case wq0c => k_is); (case wq0k => k_is); (case wq1a => k_is); (case wq1b => k_is); (case wq1e => k_is); (case wq1l => k_is); (case wq1c => k_is); (case wq1k => k_is); (case wq2a => k_is); (case wq2b => k_is); (case wq2e => k_is); (case wq2l => k_is); (case wq2c => k_is); (case wq2k => k_is); (case wq3a => k_is); (case wq3b => k_is); (case wq3e => k_is); (case wq3l => k_is); (case wq3c => k_is); (case wq3k => k_is); (case wq4a => k_is); (case wq4b => k_is); (case wq4e => k_is); (case wq4l => k_is); (case wq4c => k_is); (case wq4k => k_is); (case wq5a => k_is); (case wq5b => k_is); (case wq5e => k_is); (case wq5l => k_is); (case wq5c => k_is); (case wq5k => k_is); (case wq6a => k_is); (case wq6b => k_is); (case wq6e => k_is); (case wq6l => k_is); (case wq6c => k_is); (case wq6k => k_is); (case wq7a => k_is); (case wq7b => k_is); (case wq7e => k_is); (case wq7l => k_is); (case wq7c => k_is); (case wq7k => k_is); (case wze => exact DR.kit_me _))
    (case z_tuple => k_is)
    (case z_sorted => k_is)
    (case z_range => k_is)
    (case z_list => k_is)
    (case z_len => k_is)
    (case z_abs => k_is)
    (case z_repr => k_is)
    (case z_int => k_is)
    (case z_bool => k_is)
    (case z_dict => k_is)
    (case z_min => k_is)
    (case z_max => k_is)
    (case z_zip => k_is)
    (case z_all => k_is)
    (case z_isinstance => k_is)
    (case z_sum => k_is)
    (case z_any => k_is)
    (case z_str => k_is)
    (case z_set => k_is)
    (case z_reversed => k_is)
    (case z_enumerate => k_is)
    (case D_is_whole => refine' DR.df_mk KX G ?a ?l ?c ?k; (case a => k_is); (case l => k_is); (case c => k_is); (case k => k_is))
    (case D_is_count => refine' DR.df_mk KX G ?a ?l ?c ?k; (case a => k_is); (case l => k_is); (case c => k_is); (case k => k_is))
    (case D_is_step_or_turn => refine' DR.df_mk KX G ?a ?l ?c ?k; (case a => k_is); (case l => k_is); (case c => k_is); (case k => k_is))
    (case D_begins_as_repeat => refine' DR.df_mk KX G ?a ?l ?c ?k; (case a => k_is); (case l => k_is); (case c => k_is); (case k => k_is))
    (case D_sizes_of => refine' DR.df_mk KX G ?a ?l ?c ?k; (case a => k_is); (case l => k_is); (case c => k_is); (case k => k_is))
    (case D_is_program => refine' DR.df_mk KX G ?a ?l ?c ?k; (case a => k_is); (case l => k_is); (case c => k_is); (case k => k_is))
    (case D_copied => refine' DR.df_mk KX G ?a ?l ?c ?k; (case a => k_is); (case l => k_is); (case c => k_is); (case k => k_is))
    (case D_with_lists => refine' DR.df_mk KX G ?a ?l ?c ?k; (case a => k_is); (case l => k_is); (case c => k_is); (case k => k_is))
    (case D_tokens_of => refine' DR.df_mk KX G ?a ?l ?c ?k; (case a => k_is); (case l => k_is); (case c => k_is); (case k => k_is))
    (case D_format_program => refine' DR.df_mk KX G ?a ?l ?c ?k; (case a => k_is); (case l => k_is); (case c => k_is); (case k => k_is))
    (case D_count_of => refine' DR.df_mk KX G ?a ?l ?c ?k; (case a => k_is); (case l => k_is); (case c => k_is); (case k => k_is))
    (case D_parse_program => refine' DR.df_mk KX G ?a ?l ?c ?k; (case a => k_is); (case l => k_is); (case c => k_is); (case k => k_is))
    (case D_is_name => refine' DR.df_mk KX G ?a ?l ?c ?k; (case a => k_is); (case l => k_is); (case c => k_is); (case k => k_is))
    (case D_copied_action => refine' DR.df_mk KX G ?a ?l ?c ?k; (case a => k_is); (case l => k_is); (case c => k_is); (case k => k_is))
    (case D_plain_action => refine' DR.df_mk KX G ?a ?l ?c ?k; (case a => k_is); (case l => k_is); (case c => k_is); (case k => k_is))
    (case D_line_of => refine' DR.df_mk KX G ?a ?l ?c ?k; (case a => k_is); (case l => k_is); (case c => k_is); (case k => k_is))
    (case D_save => refine' DR.df_mk KX G ?a ?l ?c ?k; (case a => k_is); (case l => k_is); (case c => k_is); (case k => k_is))
    (case D_new_road => refine' DR.df_mk KX G ?a ?l ?c ?k; (case a => k_is); (case l => k_is); (case c => k_is); (case k => k_is))
    (case D_read_line => refine' DR.df_mk KX G ?a ?l ?c ?k; (case a => k_is); (case l => k_is); (case c => k_is); (case k => k_is))
    (case D_load => refine' DR.df_mk KX G ?a ?l ?c ?k; (case a => k_is); (case l => k_is); (case c => k_is); (case k => k_is))
    (case D__law_pen => refine' DR.df_mk KX G ?a ?l ?c ?k; (case a => k_is); (case l => k_is); (case c => k_is); (case k => k_is))
    (case D__law_draw => refine' DR.df_mk KX G ?a ?l ?c ?k; (case a => k_is); (case l => k_is); (case c => k_is); (case k => k_is))
    (case D__law_pick => refine' DR.df_mk KX G ?a ?l ?c ?k; (case a => k_is); (case l => k_is); (case c => k_is); (case k => k_is))
    (case D__law_prime => refine' DR.df_mk KX G ?a ?l ?c ?k; (case a => k_is); (case l => k_is); (case c => k_is); (case k => k_is))
    (case D__law_integer => refine' DR.df_mk KX G ?a ?l ?c ?k; (case a => k_is); (case l => k_is); (case c => k_is); (case k => k_is))
    (case D__law_word => refine' DR.df_mk KX G ?a ?l ?c ?k; (case a => k_is); (case l => k_is); (case c => k_is); (case k => k_is))
    (case D__law_body => refine' DR.df_mk KX G ?a ?l ?c ?k; (case a => k_is); (case l => k_is); (case c => k_is); (case k => k_is))
    (case D__law_calls => refine' DR.df_mk KX G ?a ?l ?c ?k; (case a => k_is); (case l => k_is); (case c => k_is); (case k => k_is))
    (case D__law_small_program => refine' DR.df_mk KX G ?a ?l ?c ?k; (case a => k_is); (case l => k_is); (case c => k_is); (case k => k_is))
    (case D__law_deep_program => refine' DR.df_mk KX G ?a ?l ?c ?k; (case a => k_is); (case l => k_is); (case c => k_is); (case k => k_is))
    (case D__law_history => refine' DR.df_mk KX G ?a ?l ?c ?k; (case a => k_is); (case l => k_is); (case c => k_is); (case k => k_is))
    (case D__law_act => refine' DR.df_mk KX G ?a ?l ?c ?k; (case a => k_is); (case l => k_is); (case c => k_is); (case k => k_is))
    (case D__law_plain_program => refine' DR.df_mk KX G ?a ?l ?c ?k; (case a => k_is); (case l => k_is); (case c => k_is); (case k => k_is))
    (case D__law_program_text => refine' DR.df_mk KX G ?a ?l ?c ?k; (case a => k_is); (case l => k_is); (case c => k_is); (case k => k_is))
    (case D__law_road_text => refine' DR.df_mk KX G ?a ?l ?c ?k; (case a => k_is); (case l => k_is); (case c => k_is); (case k => k_is))
    (case D__law_is_empty => refine' DR.df_mk KX G ?a ?l ?c ?k; (case a => k_is); (case l => k_is); (case c => k_is); (case k => k_is))
    (case D_law => refine' DR.df_mkC KX G ?a ?l ?c2 ?k; (case a => k_is); (case l => k_is); (case c2 => k_is); (case k => k_is))
