import PyProof.Rows.All
import Wide.All
import OpenK.AllK
import Wide.FinOn
import KE.GoesMore
import HandS.Base
import HandS.Call
import HandS.List
import HandS.Comp
import HandS.AnyAll
import HandS.GenList
import PyProof.SumAny
import HandS.Words
import HandS.Ends
import HandS.EndBits
import HandS.Iter
import HandS.WordsList
import HandS.IsInst
import HandS.Walk
import HandS.Wide
import HandS.Evl
import HandS.Style
import KE.IntBitsLaws
import HandS.EndTab
import PySem.Challenge.RW_dialrow_k06_refused
import HandS.Zip
import HandS.SortRule
import HandS.WordsExc
import HandS.ExcIs
set_option Elab.async false
set_option linter.all false
set_option maxRecDepth 100000
set_option maxHeartbeats 4000000
/-! Dialrow: the mathematics of deeds. -/
namespace DR
abbrev Deed := Int × Int × Int
/-- how far the dial at i is turned by deeds -/
def cover : List Deed → Int → Int
  | [], _ => 0
  | d :: r, i => (if d.1 ≤ i ∧ i < d.2.1 then d.2.2 else 0) + cover r i
theorem cover_append (a b : List Deed) (i : Int) : cover (a ++ b) i = cover a i + cover b i := by
  induction a with
  | nil => show cover b i = 0 + cover b i; omega
  | cons d r ih =>
    show _ + cover (r ++ b) i = (_ + cover r i) + cover b i
    rw [ih]; omega
/-- the row behind deeds -/
def behind (m : Int) (ns : List Int) (ds : List Deed) : List Int := ns.mapIdx fun i x => (x + cover ds (i : Int)) % m
theorem behind_length (m : Int) (ns : List Int) (ds : List Deed) : (behind m ns ds).length = ns.length := by
  unfold behind; rw [List.length_mapIdx]
theorem behind_get (m : Int) (ns : List Int) (ds : List Deed) (i : Nat) : (behind m ns ds)[i]? = ns[i]?.map fun x => (x + cover ds (i : Int)) % m := by
  unfold behind; rw [List.getElem?_mapIdx]
/-- a row of the size -/
def RowOk (m : Int) (ns : List Int) : Prop := ∀ x ∈ ns, 0 ≤ x ∧ x < m
def DeedOk (n : Int) (d : Deed) : Prop := 0 ≤ d.1 ∧ d.1 < d.2.1 ∧ d.2.1 ≤ n ∧ d.2.2 ≠ 0
def DeedsOk (n : Int) (ds : List Deed) : Prop := ∀ d ∈ ds, DeedOk n d
theorem behind_ok {m : Int} (hm : 0 < m) (ns : List Int) (ds : List Deed) : RowOk m (behind m ns ds) := by
  intro x hx
  obtain ⟨i, hi⟩ := List.mem_iff_getElem?.mp hx
  rw [behind_get] at hi
  cases e : ns[i]? with
  | none => rw [e] at hi; cases hi
  | some y =>
    rw [e] at hi
    have e2 : (y + cover ds (i : Int)) % m = x := Option.some.inj hi
    rw [← e2]
    exact ⟨Int.emod_nonneg _ (by omega), Int.emod_lt_of_pos _ hm⟩
theorem behind_nil {m : Int} {ns : List Int} (h : RowOk m ns) : behind m ns [] = ns := by
  refine List.ext_getElem? fun i => ?_
  rw [behind_get]
  cases e : ns[i]? with
  | none => rfl
  | some y =>
    have := h y (List.mem_of_getElem? e)
    show some ((y + 0) % m) = some y
    rw [Int.add_zero, Int.emod_eq_of_lt this.1 this.2]
theorem behind_behind (m : Int) (ns : List Int) (a b : List Deed) : behind m (behind m ns a) b = behind m ns (a ++ b) := by
  refine List.ext_getElem? fun i => ?_
  rw [behind_get, behind_get, behind_get]
  cases ns[i]? with
  | none => rfl
  | some y =>
    show some (((y + cover a i) % m + cover b i) % m) = some ((y + cover (a ++ b) i) % m)
    rw [cover_append, Int.emod_add_emod, Int.add_assoc]
theorem behind_congr (m : Int) (ns : List Int) {a b : List Deed} (h : ∀ i : Nat, i < ns.length → cover a i % m = cover b i % m) : behind m ns a = behind m ns b := by
  refine List.ext_getElem? fun i => ?_
  rw [behind_get, behind_get]
  cases e : ns[i]? with
  | none => rfl
  | some y =>
    have hi := (List.getElem?_eq_some_iff.mp e).1
    show some ((y + cover a i) % m) = some ((y + cover b i) % m)
    rw [← Int.add_emod_emod, h i hi, Int.add_emod_emod]
theorem cover_comm (a b : List Deed) (i : Int) : cover (a ++ b) i = cover (b ++ a) i := by
  rw [cover_append, cover_append]; omega
theorem behind_comm (m : Int) (ns : List Int) (a b : List Deed) : behind m ns (a ++ b) = behind m ns (b ++ a) :=
  behind_congr m ns fun i _ => by rw [cover_comm]
/-- the deeds back again -/
def negs (ds : List Deed) : List Deed := ds.map fun d => (d.1, d.2.1, -d.2.2)
theorem cover_negs (ds : List Deed) (i : Int) : cover (negs ds) i = -cover ds i := by
  induction ds with
  | nil => rfl
  | cons d r ih =>
    show (if d.1 ≤ i ∧ i < d.2.1 then -d.2.2 else 0) + cover (negs r) i = -((if d.1 ≤ i ∧ i < d.2.1 then d.2.2 else 0) + cover r i)
    rw [ih]
    split <;> omega
theorem negs_length (ds : List Deed) : (negs ds).length = ds.length := by unfold negs; rw [List.length_map]
theorem negs_ok {n : Int} {ds : List Deed} (h : DeedsOk n ds) : DeedsOk n (negs ds) := by
  intro d hd
  obtain ⟨c, hc, e⟩ := List.mem_map.mp hd
  subst e
  obtain ⟨h1, h2, h3, h4⟩ := h c hc
  exact ⟨h1, h2, h3, by show -c.2.2 ≠ 0; omega⟩
theorem behind_back {m : Int} {ns : List Int} (h : RowOk m ns) (ds : List Deed) : behind m (behind m ns ds) (negs ds) = ns := by
  rw [behind_behind, behind_congr m ns (b := []) fun i _ => by rw [cover_append, cover_negs, Int.add_right_neg]; rfl]
  exact behind_nil h
/-! ### the marks at the ends of stretches -/
def bump (c : List Int) (k : Nat) (s : Int) : List Int := c.set k (c.getD k 0 + s)
theorem bump_length (c : List Int) (k : Nat) (s : Int) : (bump c k s).length = c.length := by unfold bump; rw [List.length_set]
theorem bump_take : ∀ (c : List Int) (k : Nat) (s : Int) (m : Nat), k < c.length → ((bump c k s).take m).sum = (c.take m).sum + if k < m then s else 0
  | [], k, s, m, h => by simp at h
  | x :: r, k, s, 0, h => by simp
  | x :: r, 0, s, m + 1, h => by
    show ((x + s) :: r.take m).sum = (x :: r.take m).sum + if 0 < m + 1 then s else 0
    rw [List.sum_cons, List.sum_cons, if_pos (by omega)]; omega
  | x :: r, k + 1, s, m + 1, h => by
    have ih := bump_take r k s m (by simpa using h)
    show (x :: (bump r k s).take m).sum = (x :: r.take m).sum + if k + 1 < m + 1 then s else 0
    rw [List.sum_cons, List.sum_cons, ih]
    by_cases q : k < m
    · rw [if_pos q, if_pos (by omega)]; omega
    · rw [if_neg q, if_neg (by omega)]; omega
def mark1 (c : List Int) (d : Deed) : List Int := bump (bump c d.1.toNat d.2.2) d.2.1.toNat (-d.2.2)
theorem mark1_length (c : List Int) (d : Deed) : (mark1 c d).length = c.length := by unfold mark1; rw [bump_length, bump_length]
def marks (n : Nat) (ds : List Deed) : List Int := ds.foldl mark1 (List.replicate (n + 1) 0)
theorem foldl_mark_length : ∀ (ds : List Deed) (c : List Int), (ds.foldl mark1 c).length = c.length
  | [], c => rfl
  | d :: r, c => by
    show (r.foldl mark1 (mark1 c d)).length = c.length
    rw [foldl_mark_length r, mark1_length]
theorem marks_length (n : Nat) (ds : List Deed) : (marks n ds).length = n + 1 := by
  unfold marks; rw [foldl_mark_length, List.length_replicate]
theorem mark1_take {c : List Int} {d : Deed} {n : Int} (hc : (c.length : Int) = n + 1) (hd : DeedOk n d) (i : Nat) :
    ((mark1 c d).take (i + 1)).sum = (c.take (i + 1)).sum + if d.1 ≤ (i : Int) ∧ (i : Int) < d.2.1 then d.2.2 else 0 := by
  obtain ⟨h1, h2, h3, h4⟩ := hd
  unfold mark1
  rw [bump_take _ _ _ _ (by rw [bump_length]; omega), bump_take _ _ _ _ (by omega)]
  by_cases p : d.1 ≤ (i : Int)
  · rw [if_pos (show d.1.toNat < i + 1 by omega)]
    by_cases q : (i : Int) < d.2.1
    · rw [if_neg (show ¬ d.2.1.toNat < i + 1 by omega), if_pos ⟨p, q⟩]; omega
    · rw [if_pos (show d.2.1.toNat < i + 1 by omega), if_neg (fun z => q z.2)]; omega
  · rw [if_neg (show ¬ d.1.toNat < i + 1 by omega), if_neg (show ¬ d.2.1.toNat < i + 1 by omega), if_neg (fun z => p z.1)]; omega
theorem sum_zeros : ∀ (n m : Nat), ((List.replicate n (0 : Int)).take m).sum = 0
  | 0, m => by simp
  | n + 1, 0 => by simp
  | n + 1, m + 1 => by
    show ((0 : Int) :: (List.replicate n (0 : Int)).take m).sum = 0
    rw [List.sum_cons, sum_zeros n m]; rfl
theorem foldl_mark_take : ∀ (ds : List Deed) (c : List Int) (n : Int), (c.length : Int) = n + 1 → DeedsOk n ds → ∀ i : Nat, ((ds.foldl mark1 c).take (i + 1)).sum = (c.take (i + 1)).sum + cover ds i
  | [], c, n, hc, hd, i => by show _ = _ + (0 : Int); rw [Int.add_zero]; rfl
  | d :: r, c, n, hc, hd, i => by
    have ih := foldl_mark_take r (mark1 c d) n (by rw [mark1_length]; exact hc) (fun x hx => hd x (List.mem_cons_of_mem _ hx)) i
    show ((r.foldl mark1 (mark1 c d)).take (i + 1)).sum = _ + (_ + cover r i)
    rw [ih, mark1_take hc (hd d List.mem_cons_self)]; omega
theorem marks_take {n : Nat} {ds : List Deed} (h : DeedsOk n ds) (i : Nat) : ((marks n ds).take (i + 1)).sum = cover ds i := by
  unfold marks
  rw [foldl_mark_take ds _ (n : Int) (by rw [List.length_replicate]; omega) h i, sum_zeros]; omega
theorem marks_snoc (n : Nat) (ds : List Deed) (d : Deed) : marks n (ds ++ [d]) = mark1 (marks n ds) d := by
  unfold marks; rw [List.foldl_append]; rfl
theorem take_snoc {α : Type} {l : List α} {i : Nat} {x : α} (h : l[i]? = some x) : l.take (i + 1) = l.take i ++ [x] := by
  rw [List.take_add_one, h]; rfl
/-! ### deed by deed, dial by dial -/
theorem cover_snoc (ds : List Deed) (d : Deed) (i : Int) : cover (ds ++ [d]) i = cover ds i + if d.1 ≤ i ∧ i < d.2.1 then d.2.2 else 0 := by
  rw [cover_append]
  show _ + (_ + 0) = _
  omega
theorem behind_empty (m : Int) (ns : List Int) (ds : List Deed) (f s : Int) : behind m ns (ds ++ [(f, f, s)]) = behind m ns ds := by
  refine behind_congr m ns fun i _ => ?_
  rw [cover_snoc, if_neg (by show ¬ (f ≤ (i : Int) ∧ (i : Int) < f); omega), Int.add_zero]
theorem behind_step {m : Int} {ns : List Int} {ds : List Deed} {f s y : Int} {k : Nat} (hf : 0 ≤ f) (hy : (behind m ns (ds ++ [(f, f + k, s)]))[(f + k).toNat]? = some y) :
    (behind m ns (ds ++ [(f, f + k, s)])).set (f + k).toNat ((y + s) % m) = behind m ns (ds ++ [(f, f + (k + 1 : Nat), s)]) := by
  refine List.ext_getElem? fun i => ?_
  rw [behind_get] at hy
  rw [List.getElem?_set, behind_length, behind_get, behind_get]
  by_cases e : (f + k).toNat = i
  · subst e
    rw [if_pos rfl]
    cases q : ns[(f + k).toNat]? with
    | none => rw [q] at hy; cases hy
    | some x =>
      rw [q] at hy
      have hl := (List.getElem?_eq_some_iff.mp q).1
      rw [if_pos hl]
      have hy' : (x + cover (ds ++ [(f, f + k, s)]) ((f + k).toNat : Int)) % m = y := Option.some.inj hy
      rw [← hy', cover_snoc, cover_snoc] 
      show some _ = some _
      rw [if_neg (by show ¬ (f ≤ (((f + k).toNat : Nat) : Int) ∧ (((f + k).toNat : Nat) : Int) < f + k); omega), if_pos (by show (f ≤ (((f + k).toNat : Nat) : Int) ∧ (((f + k).toNat : Nat) : Int) < f + (k + 1 : Nat)); omega), Int.add_zero, Int.emod_add_emod, Int.add_assoc]
  · rw [if_neg e]
    cases q : ns[i]? with
    | none => rfl
    | some x =>
      show some _ = some _
      rw [cover_snoc, cover_snoc]
      have : (f ≤ (i : Int) ∧ (i : Int) < f + k) ↔ (f ≤ (i : Int) ∧ (i : Int) < f + (k + 1 : Nat)) := by omega
      show some ((x + (cover ds i + if (f ≤ (i : Int) ∧ (i : Int) < f + k) then s else 0)) % m) = some ((x + (cover ds i + if (f ≤ (i : Int) ∧ (i : Int) < f + (k + 1 : Nat)) then s else 0)) % m)
      by_cases c : (f ≤ (i : Int) ∧ (i : Int) < f + k)
      · rw [if_pos c, if_pos (this.mp c)]
      · rw [if_neg c, if_neg (fun z => c (this.mpr z))]
end DR
/-! Dialrow: the fewest steps. -/
namespace DR
/-! ### sums -/
theorem sumI_append : ∀ a b : List Int, (a ++ b).sum = a.sum + b.sum
  | [], b => by simp
  | x :: a, b => by
    rw [List.cons_append, List.sum_cons, List.sum_cons, sumI_append a b]; omega
theorem sumI_reverse : ∀ a : List Int, a.reverse.sum = a.sum
  | [] => rfl
  | x :: a => by
    rw [List.reverse_cons, sumI_append, sumI_reverse a, List.sum_cons]
    simp; omega
theorem sumI_neg : ∀ a : List Int, (a.map fun x => -x).sum = -a.sum
  | [] => rfl
  | x :: a => by
    rw [List.map_cons, List.sum_cons, List.sum_cons, sumI_neg a]; omega
/-! ### what a vector of turns costs -/
def pos (x : Int) : Int := if 0 ≤ x then x else 0
def cost (d : List Int) : Int := (d.map pos).sum
theorem pos_nonneg (x : Int) : 0 ≤ pos x := by unfold pos; split <;> omega
theorem le_pos (x : Int) : x ≤ pos x := by unfold pos; split <;> omega
theorem pos_add (x y : Int) : pos (x + y) ≤ pos x + pos y := by unfold pos; split <;> split <;> split <;> omega
theorem pos_neg (x : Int) : pos (-x) = pos x - x := by unfold pos; split <;> split <;> omega
theorem cost_cons (x : Int) (d : List Int) : cost (x :: d) = pos x + cost d := by unfold cost; rw [List.map_cons, List.sum_cons]
theorem cost_nonneg : ∀ d : List Int, 0 ≤ cost d
  | [] => Int.le_refl _
  | x :: d => by rw [cost_cons]; have := pos_nonneg x; have := cost_nonneg d; omega
theorem cost_append (a b : List Int) : cost (a ++ b) = cost a + cost b := by unfold cost; rw [List.map_append, sumI_append]
theorem cost_reverse (a : List Int) : cost a.reverse = cost a := by unfold cost; rw [List.map_reverse, sumI_reverse]
theorem cost_neg : ∀ d : List Int, cost (d.map fun x => -x) = cost d - d.sum
  | [] => rfl
  | x :: d => by
    rw [List.map_cons, cost_cons, cost_cons, cost_neg d, pos_neg, List.sum_cons]; omega
theorem cost_zero : ∀ {d : List Int}, cost d = 0 → d.sum = 0 → ∀ x ∈ d, x = 0
  | d, hc, hs => by
    have h1 : ∀ (l : List Int), (∀ x ∈ l, x ≤ 0) → l.sum = 0 → ∀ x ∈ l, x = 0 := by
      intro l
      induction l with
      | nil => intro _ _ x hx; cases hx
      | cons y r ih =>
        intro h e x hx
        have hy := h y List.mem_cons_self
        have hr : ∀ (t : List Int), (∀ x ∈ t, x ≤ 0) → t.sum ≤ 0 := by
          intro t
          induction t with
          | nil => intro _; simp
          | cons z t ih2 =>
            intro h2
            rw [List.sum_cons]
            have := h2 z List.mem_cons_self
            have := ih2 fun x hx => h2 x (List.mem_cons_of_mem _ hx)
            omega
        have h3 := hr r fun x hx => h x (List.mem_cons_of_mem _ hx)
        rw [List.sum_cons] at e
        rcases List.mem_cons.mp hx with q | q
        · omega
        · exact ih (fun x hx => h x (List.mem_cons_of_mem _ hx)) (by omega) x q
    have h2 : ∀ (l : List Int), cost l = 0 → ∀ x ∈ l, x ≤ 0 := by
      intro l
      induction l with
      | nil => intro _ x hx; cases hx
      | cons y r ih =>
        intro e x hx
        rw [cost_cons] at e
        have a := pos_nonneg y
        have b := cost_nonneg r
        rcases List.mem_cons.mp hx with q | q
        · have := le_pos y; omega
        · exact ih (by omega) x q
    exact h1 d (h2 d hc) hs
/-- by a mark, the least of all vectors of those remainders, times the size -/
def least (m k x : Int) : Int := min ((m - k) * x) (k * (m - x))
def bound (m k : Int) (g : List Int) : Int := (g.map (least m k)).sum
theorem bound_cons (m k x : Int) (g : List Int) : bound m k (x :: g) = least m k x + bound m k g := by unfold bound; rw [List.map_cons, List.sum_cons]
theorem least_le {m k : Int} (hm : 0 < m) (h0 : 0 ≤ k) (h1 : k ≤ m) (x : Int) : least m k (x % m) ≤ (m - k) * pos x + k * (pos x - x) := by
  have r0 := Int.emod_nonneg x (show m ≠ 0 by omega)
  have r1 := Int.emod_lt_of_pos x hm
  have e := Int.mul_ediv_add_emod x m
  unfold least pos
  by_cases hx : 0 ≤ x
  · rw [if_pos hx]
    have hq : 0 ≤ x / m := Int.ediv_nonneg hx (by omega)
    have hle : x % m ≤ x := by
      have : 0 ≤ m * (x / m) := Int.mul_nonneg (by omega) hq
      omega
    have h2 : (m - k) * (x % m) ≤ (m - k) * x := Int.mul_le_mul_of_nonneg_left hle (by omega)
    have h3 : k * (x - x) = 0 := by rw [Int.sub_self, Int.mul_zero]
    have := Int.min_le_left ((m - k) * (x % m)) (k * (m - x % m))
    omega
  · rw [if_neg hx]
    have hq : x / m ≤ -1 := by
      have : x / m < 0 := Int.ediv_neg_of_neg_of_pos (by omega) hm
      omega
    have hle : m - x % m ≤ 0 - x := by
      have : m * (x / m) ≤ m * (-1) := Int.mul_le_mul_of_nonneg_left hq (by omega)
      omega
    have h2 : k * (m - x % m) ≤ k * (0 - x) := Int.mul_le_mul_of_nonneg_left hle h0
    have h3 : (m - k) * 0 = 0 := Int.mul_zero _
    have := Int.min_le_right ((m - k) * (x % m)) (k * (m - x % m))
    omega
theorem bound_le {m k : Int} (hm : 0 < m) (h0 : 0 ≤ k) (h1 : k ≤ m) : ∀ d : List Int, bound m k (d.map (· % m)) ≤ (m - k) * cost d + k * (cost d - d.sum)
  | [] => by
    show (0 : Int) ≤ (m - k) * 0 + k * (0 - 0)
    rw [Int.mul_zero, Int.sub_zero, Int.mul_zero]; decide
  | x :: d => by
    have ih := bound_le hm h0 h1 d
    have a := least_le hm h0 h1 x
    rw [List.map_cons, bound_cons, cost_cons, List.sum_cons]
    have e1 : (m - k) * (pos x + cost d) = (m - k) * pos x + (m - k) * cost d := Int.mul_add _ _ _
    have e2 : k * (pos x + cost d - (x + d.sum)) = k * (pos x - x) + k * (cost d - d.sum) := by rw [← Int.mul_add]; congr 1; omega
    omega
/-- d is turned as r is, but for whole turns, and comes back to nought -/
def Sol (m : Int) (r d : List Int) : Prop := d.map (· % m) = r.map (· % m) ∧ d.sum = 0
/-- v is the fewest steps for the turns r -/
def Fewest (m : Int) (r : List Int) (v : Int) : Prop := (∃ d, Sol m r d ∧ cost d = v) ∧ ∀ d, Sol m r d → v ≤ cost d
theorem Fewest.uniq {m : Int} {r : List Int} {v w : Int} (a : Fewest m r v) (b : Fewest m r w) : v = w := by
  obtain ⟨⟨d, h1, h2⟩, h3⟩ := a
  obtain ⟨⟨e, k1, k2⟩, k3⟩ := b
  have := h3 e k1
  have := k3 d h1
  omega
/-- as few as a mark shows -/
theorem fewest_of {m k v : Int} {r d : List Int} (hm : 0 < m) (h0 : 0 ≤ k) (h1 : k ≤ m) (hd : Sol m r d) (hc : cost d ≤ v) (hb : m * v = bound m k (r.map (· % m))) : Fewest m r v ∧ cost d = v := by
  have low : ∀ e, Sol m r e → v ≤ cost e := by
    intro e he
    have a := bound_le hm h0 h1 e
    rw [he.1, he.2, ← hb] at a
    have e1 : (m - k) * cost e + k * (cost e - 0) = m * cost e := by rw [Int.sub_zero, ← Int.add_mul]; congr 1; omega
    rw [e1] at a
    exact Int.le_of_mul_le_mul_left a hm
  have ev : cost d = v := Int.le_antisymm hc (low d hd)
  exact ⟨⟨⟨d, hd, ev⟩, low⟩, ev⟩
theorem Fewest.nonneg {m : Int} {r : List Int} {v : Int} (a : Fewest m r v) : 0 ≤ v := by
  obtain ⟨⟨d, h1, h2⟩, h3⟩ := a
  rw [← h2]; exact cost_nonneg d
/-! ### remainders place by place -/
theorem mod_map_len {m : Int} {a b : List Int} (h : a.map (· % m) = b.map (· % m)) : a.length = b.length := by
  have := congrArg List.length h
  rw [List.length_map, List.length_map] at this
  exact this
theorem neg_mod {m x y : Int} (h : x % m = y % m) : (-x) % m = (-y) % m := by
  rw [Int.emod_eq_emod_iff_emod_sub_eq_zero] at h ⊢
  rw [show -x - -y = -(x - y) by omega]
  exact Int.emod_eq_zero_of_dvd (Int.dvd_neg.mpr (Int.dvd_of_emod_eq_zero h))
theorem add_mod {m x y z w : Int} (h : x % m = y % m) (k : z % m = w % m) : (x + z) % m = (y + w) % m := by
  rw [Int.add_emod, h, k, ← Int.add_emod]
theorem map_neg_mod {m : Int} : ∀ {a b : List Int}, a.map (· % m) = b.map (· % m) → (a.map fun x => -x).map (· % m) = (b.map fun x => -x).map (· % m)
  | [], [], _ => rfl
  | [], _ :: _, h => by simp at h
  | _ :: _, [], h => by simp at h
  | x :: a, y :: b, h => by
    simp only [List.map_cons, List.cons.injEq] at h ⊢
    exact ⟨neg_mod h.1, map_neg_mod h.2⟩
def vadd (a b : List Int) : List Int := List.zipWith (· + ·) a b
theorem vadd_mod {m : Int} : ∀ {a b c d : List Int}, a.map (· % m) = b.map (· % m) → c.map (· % m) = d.map (· % m) → (vadd a c).map (· % m) = (vadd b d).map (· % m)
  | [], [], _, _, _, _ => rfl
  | [], _ :: _, _, _, h, _ => by simp at h
  | _ :: _, [], _, _, h, _ => by simp at h
  | _ :: _, _ :: _, [], [], _, _ => rfl
  | _ :: _, _ :: _, [], _ :: _, _, h => by simp at h
  | _ :: _, _ :: _, _ :: _, [], _, h => by simp at h
  | x :: a, y :: b, z :: c, w :: d, h, k => by
    simp only [List.map_cons, List.cons.injEq] at h k
    unfold vadd
    simp only [List.zipWith_cons_cons, List.map_cons, List.cons.injEq]
    exact ⟨add_mod h.1 k.1, vadd_mod h.2 k.2⟩
theorem vadd_sum : ∀ {a c : List Int}, a.length = c.length → (vadd a c).sum = a.sum + c.sum
  | [], [], _ => rfl
  | [], _ :: _, h => by simp at h
  | _ :: _, [], h => by simp at h
  | x :: a, y :: c, h => by
    have ih := vadd_sum (a := a) (c := c) (by simpa using h)
    show ((x + y) :: vadd a c).sum = (x :: a).sum + (y :: c).sum
    rw [List.sum_cons, List.sum_cons, List.sum_cons, ih]; omega
theorem vadd_cost : ∀ {a c : List Int}, a.length = c.length → cost (vadd a c) ≤ cost a + cost c
  | [], [], _ => by decide
  | [], _ :: _, h => by simp at h
  | _ :: _, [], h => by simp at h
  | x :: a, y :: c, h => by
    have ih := vadd_cost (a := a) (c := c) (by simpa using h)
    show cost ((x + y) :: vadd a c) ≤ _
    rw [cost_cons, cost_cons, cost_cons]
    have := pos_add x y
    omega
/-! ### gaps -/
def diffs : List Int → List Int
  | x :: y :: r => (y - x) :: diffs (y :: r)
  | _ => []
def turns (a b : List Int) : List Int := [0] ++ List.zipWith (fun x y => y - x) a b ++ [0]
def raw (a b : List Int) : List Int := diffs (turns a b)
theorem diffs_length : ∀ l : List Int, (diffs l).length = l.length - 1
  | [] => rfl
  | [_] => rfl
  | x :: y :: r => by
    show (diffs (y :: r)).length + 1 = (y :: r).length + 1 - 1
    rw [diffs_length (y :: r)]
    show (r.length + 1 - 1) + 1 = r.length + 1 + 1 - 1
    omega
theorem turns_length {a b : List Int} (h : a.length = b.length) : (turns a b).length = a.length + 2 := by
  unfold turns
  rw [List.length_append, List.length_append, List.length_zipWith, h]
  simp; omega
theorem raw_length {a b : List Int} (h : a.length = b.length) : (raw a b).length = a.length + 1 := by
  unfold raw
  rw [diffs_length, turns_length h]; omega
theorem diffs_neg : ∀ l : List Int, diffs (l.map fun x => -x) = (diffs l).map fun x => -x
  | [] => rfl
  | [_] => rfl
  | x :: y :: r => by
    show (-y - -x) :: diffs ((y :: r).map fun x => -x) = -(y - x) :: (diffs (y :: r)).map fun x => -x
    rw [diffs_neg (y :: r)]; congr 1; omega
theorem diffs_add : ∀ {l t : List Int}, l.length = t.length → diffs (vadd l t) = vadd (diffs l) (diffs t)
  | [], [], _ => rfl
  | [], _ :: _, h => by simp at h
  | _ :: _, [], h => by simp at h
  | [_], [_], _ => rfl
  | [_], _ :: _ :: _, h => by simp at h
  | _ :: _ :: _, [_], h => by simp at h
  | x :: y :: r, u :: v :: w, h => by
    have ih := diffs_add (l := y :: r) (t := v :: w) (by simpa using h)
    show ((y + v) - (x + u)) :: diffs (vadd (y :: r) (v :: w)) = ((y - x) + (v - u)) :: vadd (diffs (y :: r)) (diffs (v :: w))
    rw [ih]; congr 1; omega
theorem diffs_snoc : ∀ (l : List Int) (x y : Int), diffs (l ++ [x, y]) = diffs (l ++ [x]) ++ [y - x]
  | [], x, y => rfl
  | [a], x, y => rfl
  | a :: b :: r, x, y => by
    show (b - a) :: diffs ((b :: r) ++ [x, y]) = (b - a) :: (diffs ((b :: r) ++ [x]) ++ [y - x])
    rw [diffs_snoc (b :: r) x y]
theorem diffs_reverse : ∀ l : List Int, diffs l.reverse = ((diffs l).map fun x => -x).reverse
  | [] => rfl
  | [_] => rfl
  | x :: y :: r => by
    have ih := diffs_reverse (y :: r)
    rw [List.reverse_cons, List.reverse_cons] at *
    rw [List.append_assoc]
    show diffs (r.reverse ++ [y, x]) = ((-(y - x)) :: (diffs (y :: r)).map fun x => -x).reverse
    rw [diffs_snoc, ih, List.reverse_cons]
    congr 2; omega
theorem diffs_mod {m : Int} : ∀ {l t : List Int}, l.map (· % m) = t.map (· % m) → (diffs l).map (· % m) = (diffs t).map (· % m)
  | [], [], _ => rfl
  | [], _ :: _, h => by simp at h
  | _ :: _, [], h => by simp at h
  | [_], [_], _ => rfl
  | [_], _ :: _ :: _, h => by simp at h
  | _ :: _ :: _, [_], h => by simp at h
  | x :: y :: r, u :: v :: w, h => by
    have h' : (y :: r).map (· % m) = (v :: w).map (· % m) := by
      simp only [List.map_cons, List.cons.injEq] at h ⊢
      exact h.2
    have ih := diffs_mod h'
    simp only [List.map_cons, List.cons.injEq] at h
    show ((y - x) % m) :: (diffs (y :: r)).map (· % m) = ((v - u) % m) :: (diffs (v :: w)).map (· % m)
    rw [ih]; congr 1
    rw [Int.sub_eq_add_neg, Int.sub_eq_add_neg]
    exact add_mod h.2.1 (neg_mod h.1)
theorem diffs_sum : ∀ (x : Int) (l : List Int) (z : Int), (diffs (x :: l ++ [z])).sum = z - x
  | x, [], z => by show ([z - x] : List Int).sum = z - x; simp
  | x, y :: l, z => by
    show ((y - x) :: diffs (y :: l ++ [z])).sum = z - x
    rw [List.sum_cons, diffs_sum y l z]; omega
theorem raw_sum (a b : List Int) : (raw a b).sum = 0 := by
  unfold raw turns
  rw [List.singleton_append, diffs_sum]; rfl
theorem turns_self (a : List Int) : turns a a = List.replicate (a.length + 2) 0 := by
  unfold turns
  have : List.zipWith (fun x y : Int => y - x) a a = List.replicate a.length 0 := by
    induction a with
    | nil => rfl
    | cons x r ih => rw [List.zipWith_cons_cons, ih, Int.sub_self, List.length_cons, List.replicate_succ]
  rw [this, List.singleton_append, ← List.replicate_succ]
  show _ ++ List.replicate 1 (0 : Int) = _
  rw [List.replicate_append_replicate]
theorem diffs_zeros : ∀ n : Nat, diffs (List.replicate (n + 1) 0) = List.replicate n 0
  | 0 => rfl
  | n + 1 => by
    show ((0 : Int) - 0) :: diffs (List.replicate (n + 1) 0) = _
    rw [diffs_zeros n]; rfl
theorem raw_self (a : List Int) : raw a a = List.replicate (a.length + 1) 0 := by
  unfold raw
  rw [turns_self, diffs_zeros]
theorem cost_zeros : ∀ n : Nat, cost (List.replicate n 0) = 0
  | 0 => rfl
  | n + 1 => by rw [List.replicate_succ, cost_cons, cost_zeros n]; rfl
theorem turns_swap (a b : List Int) : turns b a = (turns a b).map fun x => -x := by
  unfold turns
  have : ∀ a b : List Int, List.zipWith (fun x y : Int => y - x) b a = (List.zipWith (fun x y : Int => y - x) a b).map fun x => -x := by
    intro a
    induction a with
    | nil => intro b; simp
    | cons x r ih =>
      intro b
      cases b with
      | nil => simp
      | cons y t => simp only [List.zipWith_cons_cons, List.map_cons, ih t]; congr 1; omega
  rw [this]; simp
theorem turns_reverse {a b : List Int} (h : a.length = b.length) : turns a.reverse b.reverse = (turns a b).reverse := by
  unfold turns
  rw [← List.reverse_zipWith h]; simp
theorem turns_via {a b c : List Int} (h1 : a.length = b.length) (h2 : b.length = c.length) : turns a c = vadd (turns a b) (turns b c) := by
  have : ∀ a b c : List Int, a.length = b.length → b.length = c.length → List.zipWith (fun x y : Int => y - x) a c = vadd (List.zipWith (fun x y : Int => y - x) a b) (List.zipWith (fun x y : Int => y - x) b c) := by
    intro a
    induction a with
    | nil => intro b c _ _; simp [vadd]
    | cons x r ih =>
      intro b c h1 h2
      cases b with
      | nil => simp at h1
      | cons y s =>
        cases c with
        | nil => simp at h2
        | cons z t =>
          show (z - x) :: List.zipWith _ r t = ((y - x) + (z - y)) :: vadd (List.zipWith _ r s) (List.zipWith _ s t)
          rw [ih s t (by simpa using h1) (by simpa using h2)]; congr 1; omega
  unfold turns
  rw [this a b c h1 h2]
  unfold vadd
  rw [List.zipWith_append (by simp [List.length_zipWith, h1, h2]), List.zipWith_append (by simp)]
  rfl
theorem turns_shift {m k : Int} : ∀ {a b : List Int}, (turns (a.map fun x => (x + k) % m) (b.map fun x => (x + k) % m)).map (· % m) = (turns a b).map (· % m) := by
  intro a b
  have : ∀ a b : List Int, (List.zipWith (fun x y : Int => y - x) (a.map fun x => (x + k) % m) (b.map fun x => (x + k) % m)).map (· % m) = (List.zipWith (fun x y : Int => y - x) a b).map (· % m) := by
    intro a
    induction a with
    | nil => intro b; simp
    | cons x r ih =>
      intro b
      cases b with
      | nil => simp
      | cons y t =>
        simp only [List.map_cons, List.zipWith_cons_cons]
        rw [ih t]
        congr 1
        rw [← Int.sub_emod, show y + k - (x + k) = y - x by omega]
  unfold turns
  rw [List.map_append, List.map_append, this, List.map_append, List.map_append]
/-! ### what holds of the fewest steps -/
section
variable {m : Int} {a b c : List Int} {v w u : Int}
theorem few_self (a : List Int) : Fewest m (raw a a) 0 := by
  refine ⟨⟨raw a a, ⟨rfl, raw_sum a a⟩, ?_⟩, fun d _ => cost_nonneg d⟩
  rw [raw_self, cost_zeros]
theorem few_swap (h : Fewest m (raw a b) v) : Fewest m (raw b a) v := by
  have sw : ∀ (a b d : List Int), Sol m (raw a b) d → Sol m (raw b a) (d.map fun x => -x) ∧ cost (d.map fun x => -x) = cost d := by
    intro a b d hd
    refine ⟨⟨?_, by rw [sumI_neg, hd.2]; rfl⟩, by rw [cost_neg, hd.2]; omega⟩
    unfold raw
    rw [turns_swap a b, diffs_neg]
    exact map_neg_mod hd.1
  obtain ⟨⟨d, h1, h2⟩, h3⟩ := h
  refine ⟨⟨_, (sw a b d h1).1, by rw [(sw a b d h1).2, h2]⟩, fun e he => ?_⟩
  have := h3 _ (sw b a e he).1
  rw [(sw b a e he).2] at this
  exact this
theorem few_reverse (hl : a.length = b.length) (h : Fewest m (raw a b) v) : Fewest m (raw a.reverse b.reverse) v := by
  have sw : ∀ (a b d : List Int), a.length = b.length → Sol m (raw a b) d → Sol m (raw a.reverse b.reverse) (d.map fun x => -x).reverse ∧ cost (d.map fun x => -x).reverse = cost d := by
    intro a b d hl hd
    refine ⟨⟨?_, by rw [sumI_reverse, sumI_neg, hd.2]; rfl⟩, by rw [cost_reverse, cost_neg, hd.2]; omega⟩
    unfold raw
    rw [turns_reverse hl, diffs_reverse, List.map_reverse, List.map_reverse]
    exact congrArg List.reverse (map_neg_mod hd.1)
  obtain ⟨⟨d, h1, h2⟩, h3⟩ := h
  refine ⟨⟨_, (sw a b d hl h1).1, by rw [(sw a b d hl h1).2, h2]⟩, fun e he => ?_⟩
  have q := sw a.reverse b.reverse e (by simp [hl]) he
  rw [List.reverse_reverse, List.reverse_reverse] at q
  have := h3 _ q.1
  rw [q.2] at this
  exact this
theorem few_mod {r s : List Int} (e : r.map (· % m) = s.map (· % m)) (h : Fewest m r v) : Fewest m s v := by
  obtain ⟨⟨d, h1, h2⟩, h3⟩ := h
  exact ⟨⟨d, ⟨h1.1.trans e, h1.2⟩, h2⟩, fun x hx => h3 x ⟨hx.1.trans e.symm, hx.2⟩⟩
theorem few_shift {k : Int} (h : Fewest m (raw a b) v) : Fewest m (raw (a.map fun x => (x + k) % m) (b.map fun x => (x + k) % m)) v :=
  few_mod (diffs_mod turns_shift).symm h
theorem few_tri (h1 : a.length = b.length) (h2 : b.length = c.length) (hab : Fewest m (raw a b) v) (hbc : Fewest m (raw b c) w) (hac : Fewest m (raw a c) u) : u ≤ v + w := by
  obtain ⟨⟨d, k1, k2⟩, _⟩ := hab
  obtain ⟨⟨e, l1, l2⟩, _⟩ := hbc
  have hd := mod_map_len k1.1
  have he := mod_map_len l1.1
  rw [raw_length h1] at hd
  rw [raw_length h2] at he
  have hl : d.length = e.length := by omega
  have q := hac.2 (vadd d e) ⟨?_, by rw [vadd_sum hl, k1.2, l1.2]; rfl⟩
  · have := vadd_cost hl
    omega
  · unfold raw
    rw [turns_via h1 h2, diffs_add (by rw [turns_length h1, turns_length h2, h1])]
    exact vadd_mod k1.1 l1.1
theorem few_tail {x y : Int} (hab : Fewest m (raw (x :: a) (y :: b)) v) (ht : Fewest m (raw a b) w) : w ≤ v := by
  obtain ⟨⟨d, k1, k2⟩, _⟩ := hab
  -- the first two gaps are put together
  obtain ⟨p, q, r, e⟩ : ∃ p q r, turns a b = 0 :: p :: r ∧ turns (x :: a) (y :: b) = 0 :: (y - x) :: p :: r ∧ q = (0 : Int) := by
    unfold turns
    cases a with
    | nil => exact ⟨0, 0, [], rfl, rfl, rfl⟩
    | cons x2 a2 =>
      cases b with
      | nil => exact ⟨0, 0, [], rfl, rfl, rfl⟩
      | cons y2 b2 => exact ⟨y2 - x2, 0, _, rfl, rfl, rfl⟩
  obtain ⟨e1, e2, _⟩ := e
  have f1 : raw (x :: a) (y :: b) = (y - x - 0) :: (p - (y - x)) :: diffs (p :: r) := by unfold raw; rw [e2]; rfl
  have f2 : raw a b = (p - 0) :: diffs (p :: r) := by unfold raw; rw [e1]; rfl
  rw [f1] at k1
  rw [f2] at ht
  obtain ⟨g1, g2⟩ := k1
  match d, g1, g2, k2 with
  | [], g1, _, _ => simp at g1
  | [_], g1, _, _ => simp at g1
  | d0 :: d1 :: dr, g1, g2, k2 =>
    simp only [List.map_cons, List.cons.injEq] at g1
    have q := ht.2 ((d0 + d1) :: dr) ⟨?_, ?_⟩
    · rw [cost_cons] at q
      rw [cost_cons, cost_cons] at k2
      have := pos_add d0 d1
      omega
    · simp only [List.map_cons, List.cons.injEq]
      refine ⟨?_, g1.2.2⟩
      rw [add_mod g1.1 g1.2.1]; congr 1; omega
    · rw [List.sum_cons] at g2 ⊢
      rw [List.sum_cons] at g2
      omega
theorem few_zero (hm : 0 < m) (ha : RowOk m a) (hb : RowOk m b) (hl : a.length = b.length) (h : Fewest m (raw a b) 0) : a = b := by
  obtain ⟨⟨d, h1, h2⟩, h3⟩ := h
  clear h3
  have z := cost_zero h2 h1.2
  have z2 : ∀ x ∈ raw a b, x % m = 0 := by
    intro x hx
    have : x % m ∈ d.map (· % m) := by rw [h1.1]; exact List.mem_map_of_mem hx
    obtain ⟨y, hy, e⟩ := List.mem_map.mp this
    rw [← e, z y hy, Int.zero_emod]
  have key : ∀ (l : List Int) (x : Int), (∀ y ∈ diffs (x :: l), y % m = 0) → ∀ y ∈ l, y % m = x % m := by
    intro l
    induction l with
    | nil => intro x _ y hy; cases hy
    | cons u r ih =>
      intro x hx y hy
      have h0 : (u - x) % m = 0 := hx (u - x) List.mem_cons_self
      have h1 : u % m = x % m := Int.emod_eq_emod_iff_emod_sub_eq_zero.mpr h0
      rcases List.mem_cons.mp hy with e | e
      · rw [e, h1]
      · rw [← h1]
        exact ih u (fun y hy => hx y (List.mem_cons_of_mem _ hy)) y e
  have z3 : ∀ y ∈ List.zipWith (fun x y : Int => y - x) a b, y % m = 0 := by
    intro y hy
    have e : turns a b = 0 :: (List.zipWith (fun x y : Int => y - x) a b ++ [0]) := rfl
    unfold raw at z2
    rw [e] at z2
    have := key (List.zipWith (fun x y : Int => y - x) a b ++ [0]) 0 z2 y (List.mem_append_left _ hy)
    rw [this, Int.zero_emod]
  clear z2 z h1 h2 key
  induction a generalizing b with
  | nil => cases b with
    | nil => rfl
    | cons _ _ => simp at hl
  | cons x r ih =>
    cases b with
    | nil => simp at hl
    | cons y t =>
      have e : (y - x) % m = 0 := z3 _ (by rw [List.zipWith_cons_cons]; exact List.mem_cons_self)
      have hx := ha x List.mem_cons_self
      have hy := hb y List.mem_cons_self
      have e2 : y % m = x % m := Int.emod_eq_emod_iff_emod_sub_eq_zero.mpr e
      rw [Int.emod_eq_of_lt hx.1 hx.2, Int.emod_eq_of_lt hy.1 hy.2] at e2
      rw [e2, ih (fun z hz => ha z (List.mem_cons_of_mem _ hz)) (fun z hz => hb z (List.mem_cons_of_mem _ hz)) (by simpa using hl) fun z hz => z3 z (by rw [List.zipWith_cons_cons]; exact List.mem_cons_of_mem _ hz)]
end
end DR
namespace DR
/-! ### all dials to one figure -/
def lastOf : Int → List Int → Int
  | x, [] => x
  | _, y :: r => lastOf y r
def mid (x : Int) (r : List Int) : List Int := diffs ((x :: r).map fun x => -x)
theorem diffs_to (c : Int) : ∀ (r : List Int) (x : Int), diffs (((x :: r).map fun y => c - y) ++ [0]) = mid x r ++ [lastOf x r - c]
  | [], x => by
    show [0 - (c - x)] = [x - c]
    congr 1; omega
  | y :: r, x => by
    show ((c - y) - (c - x)) :: diffs (((y :: r).map fun y => c - y) ++ [0]) = ((-y - -x) :: mid y r) ++ [lastOf y r - c]
    rw [diffs_to c r y, List.cons_append]; congr 1; omega
theorem zip_rep (c : Int) : ∀ a : List Int, List.zipWith (fun x y : Int => y - x) a (List.replicate a.length c) = a.map fun y => c - y
  | [] => rfl
  | x :: r => by
    rw [List.length_cons, List.replicate_succ, List.zipWith_cons_cons, zip_rep c r]; rfl
theorem raw_to (c x : Int) (r : List Int) : raw (x :: r) (List.replicate (x :: r).length c) = (c - x) :: (mid x r ++ [lastOf x r - c]) := by
  unfold raw turns
  rw [zip_rep]
  show (c - x - 0) :: diffs (((x :: r).map fun y => c - y) ++ [0]) = _
  rw [diffs_to, Int.sub_zero]
theorem map_snoc {m : Int} {e t : List Int} {z : Int} (h : e.map (· % m) = (t ++ [z]).map (· % m)) : ∃ e1 el, e = e1 ++ [el] ∧ e1.map (· % m) = t.map (· % m) ∧ el % m = z % m := by
  have hl := mod_map_len h
  rw [List.length_append, List.length_singleton] at hl
  have hne : e ≠ [] := by intro q; rw [q] at hl; simp at hl
  refine ⟨e.dropLast, e.getLast hne, (List.dropLast_concat_getLast hne).symm, ?_⟩
  rw [← List.dropLast_concat_getLast hne, List.map_append, List.map_append] at h
  have := List.append_inj' h (by simp)
  exact ⟨this.1, by simpa using this.2⟩
theorem few_level {m x y v w : Int} {r : List Int} (h : Fewest m (raw (x :: r) (List.replicate (x :: r).length x)) v) (k : Fewest m (raw (x :: r) (List.replicate (x :: r).length y)) w) : v ≤ w := by
  rw [raw_to] at h k
  obtain ⟨⟨d, k1, k2⟩, _⟩ := k
  obtain ⟨g1, g2⟩ := k1
  match d, g1, g2, k2 with
  | [], g1, _, _ => simp at g1
  | d0 :: e, g1, g2, k2 =>
    simp only [List.map_cons, List.cons.injEq] at g1
    obtain ⟨e1, el, rfl, f1, f2⟩ := map_snoc g1.2
    have q := h.2 (0 :: (e1 ++ [d0 + el])) ⟨?_, ?_⟩
    · rw [cost_cons, cost_append, cost_cons] at q
      rw [cost_cons, cost_append, cost_cons] at k2
      have := pos_add d0 el
      have z : pos 0 = 0 := rfl
      omega
    · simp only [List.map_cons, List.map_append, List.cons.injEq]
      refine ⟨by rw [Int.sub_self], ?_⟩
      rw [f1]
      congr 1
      show [(d0 + el) % m] = [(lastOf x r - x) % m]
      rw [add_mod g1.1 f2]; congr 2; omega
    · rw [List.sum_cons, sumI_append, List.sum_cons] at g2 ⊢
      simp only [List.sum_nil] at g2 ⊢
      omega
/-- the row turned by a number: as many steps to its first figure -/
theorem few_level_shift {m k v : Int} {a : List Int} {c : Int} (h : Fewest m (raw a (List.replicate a.length c)) v) :
    Fewest m (raw (a.map fun x => (x + k) % m) (List.replicate a.length ((c + k) % m))) v := by
  have := few_shift (k := k) h
  rw [List.map_replicate] at this
  exact this
/-! ### deeds and their turns -/
def ab (x : Int) : Int := if x < 0 then -x else x
def steps (ds : List Deed) : Int := (ds.map fun d => ab d.2.2).sum
theorem steps_cons (d : Deed) (ds : List Deed) : steps (d :: ds) = ab d.2.2 + steps ds := by unfold steps; rw [List.map_cons, List.sum_cons]
def covers (n : Nat) (ds : List Deed) : List Int := (List.range (n + 2)).map fun i : Nat => cover ds ((i : Int) - 1)
theorem covers_length (n : Nat) (ds : List Deed) : (covers n ds).length = n + 2 := by unfold covers; rw [List.length_map, List.length_range]
theorem vadd_map {α : Type} (f g : α → Int) : ∀ l : List α, vadd (l.map f) (l.map g) = l.map fun i => f i + g i
  | [] => rfl
  | x :: r => by
    show (f x + g x) :: vadd (r.map f) (r.map g) = _
    rw [vadd_map f g r]; rfl
theorem covers_cons (n : Nat) (d : Deed) (ds : List Deed) : covers n (d :: ds) = vadd (covers n [d]) (covers n ds) := by
  unfold covers
  rw [vadd_map]
  refine List.map_congr_left fun i _ => ?_
  show (if _ then _ else _) + cover ds _ = ((if _ then _ else _) + 0) + cover ds _
  rw [Int.add_zero]
theorem covers_snoc (n : Nat) (ds : List Deed) : covers (n + 1) ds = covers n ds ++ [cover ds ((n : Int) + 1)] := by
  unfold covers
  rw [List.range_succ, List.map_append]
  show _ ++ [cover ds (((n + 2 : Nat) : Int) - 1)] = _
  congr 3; omega
theorem diffs_snoc2 {l : List Int} {x y : Int} : diffs (l ++ [x] ++ [y]) = diffs (l ++ [x]) ++ [y - x] := by
  rw [List.append_assoc]
  exact diffs_snoc l x y
theorem diffs_covers_snoc (n : Nat) (ds : List Deed) : diffs (covers (n + 1) ds) = diffs (covers n ds) ++ [cover ds ((n : Int) + 1) - cover ds (n : Int)] := by
  rw [covers_snoc]
  have : ∃ l, covers n ds = l ++ [cover ds (n : Int)] := by
    cases n with
    | zero => exact ⟨[cover ds (-1)], rfl⟩
    | succ k => exact ⟨_, by rw [covers_snoc]; congr 3⟩
  obtain ⟨l, e⟩ := this
  rw [e, diffs_snoc2]
theorem covers_sum (ds : List Deed) : ∀ n : Nat, (diffs (covers n ds)).sum = cover ds (n : Int) - cover ds (-1)
  | 0 => by
    show ([cover ds 0 - cover ds (-1)] : List Int).sum = _
    simp
  | n + 1 => by
    rw [diffs_covers_snoc, sumI_append, covers_sum ds n]
    simp only [List.sum_cons, List.sum_nil]
    have : ((n + 1 : Nat) : Int) = (n : Int) + 1 := rfl
    rw [this]; omega
/-- one deed: forth at its dial, back at its end -/
theorem cost_one {d : Deed} (h : d.1 < d.2.1) (h0 : 0 ≤ d.1) : ∀ n : Nat, cost (diffs (covers n [d])) = (if d.1 ≤ (n : Int) then pos d.2.2 else 0) + (if d.2.1 ≤ (n : Int) then pos (-d.2.2) else 0)
  | 0 => by
    show cost [cover [d] 0 - cover [d] (-1)] = _
    have e : cover [d] (-1) = 0 := by
      show (if d.1 ≤ (-1 : Int) ∧ (-1 : Int) < d.2.1 then d.2.2 else 0) + 0 = 0
      rw [if_neg (by omega)]; rfl
    have e2 : cover [d] 0 = if d.1 ≤ (0 : Int) ∧ (0 : Int) < d.2.1 then d.2.2 else 0 := by
      show (if d.1 ≤ (0 : Int) ∧ (0 : Int) < d.2.1 then d.2.2 else 0) + 0 = _
      omega
    rw [e, e2, cost_cons, Int.sub_zero]
    show pos _ + 0 = _
    by_cases c : d.1 ≤ (0 : Int)
    · rw [if_pos ⟨c, by omega⟩, if_pos (show d.1 ≤ ((0 : Nat) : Int) from c), if_neg (show ¬ d.2.1 ≤ ((0 : Nat) : Int) by omega)]
    · rw [if_neg (fun z => c z.1), if_neg (show ¬ d.1 ≤ ((0 : Nat) : Int) from c), if_neg (show ¬ d.2.1 ≤ ((0 : Nat) : Int) by omega)]; rfl
  | n + 1 => by
    rw [diffs_covers_snoc, cost_append, cost_one h h0 n, cost_cons]
    show _ + (pos (((if d.1 ≤ ((n : Int) + 1) ∧ ((n : Int) + 1) < d.2.1 then d.2.2 else 0) + 0) - ((if d.1 ≤ (n : Int) ∧ (n : Int) < d.2.1 then d.2.2 else 0) + 0)) + 0) = _
    have e : ((n + 1 : Nat) : Int) = (n : Int) + 1 := rfl
    rw [e]
    have z : pos 0 = 0 := rfl
    by_cases c1 : d.1 ≤ (n : Int)
    · rw [if_pos c1, if_pos (show d.1 ≤ (n : Int) + 1 by omega)]
      by_cases c2 : d.2.1 ≤ (n : Int)
      · rw [if_pos c2, if_pos (show d.2.1 ≤ (n : Int) + 1 by omega), if_neg (by omega), if_neg (by omega)]
        show _ + (pos 0 + 0) = _
        rw [z]; omega
      · rw [if_neg c2, if_pos (show d.1 ≤ (n : Int) ∧ (n : Int) < d.2.1 by omega)]
        by_cases c3 : d.2.1 ≤ (n : Int) + 1
        · rw [if_pos c3, if_neg (by omega)]
          rw [show (0 + 0 - (d.2.2 + 0) : Int) = -d.2.2 by omega]; omega
        · rw [if_neg c3, if_pos (by omega)]
          rw [show (d.2.2 + 0 - (d.2.2 + 0) : Int) = 0 by omega, z]; omega
    · rw [if_neg c1, if_neg (show ¬ d.2.1 ≤ (n : Int) by omega), if_neg (show ¬ (d.1 ≤ (n : Int) ∧ (n : Int) < d.2.1) by omega)]
      rw [if_neg (show ¬ d.2.1 ≤ (n : Int) + 1 by omega)]
      by_cases c3 : d.1 ≤ (n : Int) + 1
      · rw [if_pos c3, if_pos (by omega)]
        rw [show (d.2.2 + 0 - (0 + 0) : Int) = d.2.2 by omega]; omega
      · rw [if_neg c3, if_neg (by omega)]
        show _ + (pos 0 + 0) = _
        rw [z]; omega
theorem pos_ab (x : Int) : pos x + pos (-x) = ab x := by unfold pos ab; split <;> split <;> split <;> omega
theorem cost_covers {n : Nat} : ∀ {ds : List Deed}, DeedsOk n ds → cost (diffs (covers n ds)) ≤ steps ds
  | [], _ => by
    have e : covers n [] = List.replicate (n + 2) 0 := by
      unfold covers
      refine List.ext_getElem? fun i => ?_
      rw [List.getElem?_map, List.getElem?_replicate]
      by_cases h : i < n + 2
      · rw [if_pos h, List.getElem?_range h]; rfl
      · rw [if_neg h, List.getElem?_eq_none (by rw [List.length_range]; omega)]; rfl
    rw [e, diffs_zeros, cost_zeros]
    exact Int.le_refl _
  | d :: r, h => by
    have ih := cost_covers (ds := r) (fun x hx => h x (List.mem_cons_of_mem _ hx))
    obtain ⟨h1, h2, h3, h4⟩ := h d List.mem_cons_self
    rw [covers_cons, diffs_add (by rw [covers_length, covers_length]), steps_cons]
    have q := vadd_cost (a := diffs (covers n [d])) (c := diffs (covers n r)) (by rw [diffs_length, diffs_length, covers_length, covers_length])
    rw [cost_one h2 h1 n, if_pos (by omega), if_pos (by omega), pos_ab] at q
    omega
theorem cover_out {n : Nat} : ∀ {ds : List Deed}, DeedsOk n ds → cover ds (-1) = 0 ∧ cover ds (n : Int) = 0
  | [], _ => ⟨rfl, rfl⟩
  | d :: r, h => by
    have ih := cover_out (ds := r) (fun x hx => h x (List.mem_cons_of_mem _ hx))
    obtain ⟨h1, h2, h3, h4⟩ := h d List.mem_cons_self
    constructor
    · show (if _ then _ else _) + cover r (-1) = 0
      rw [ih.1, if_neg (by omega)]; rfl
    · show (if _ then _ else _) + cover r (n : Int) = 0
      rw [ih.2, if_neg (by omega)]; rfl
/-- deeds that turn a row into another turn it as the gaps say -/
theorem covers_mod {m : Int} {a b : List Int} {ds : List Deed} (hok : DeedsOk a.length ds) (hb : behind m a ds = b) : (covers a.length ds).map (· % m) = (turns a b).map (· % m) := by
  have hl : a.length = b.length := by rw [← hb, behind_length]
  obtain ⟨z1, z2⟩ := cover_out hok
  refine List.ext_getElem? fun i => ?_
  rw [List.getElem?_map, List.getElem?_map]
  have ec : (covers a.length ds)[i]? = if i < a.length + 2 then some (cover ds ((i : Int) - 1)) else none := by
    unfold covers
    rw [List.getElem?_map]
    by_cases h : i < a.length + 2
    · rw [if_pos h, List.getElem?_range h]; rfl
    · rw [if_neg h, List.getElem?_eq_none (by rw [List.length_range]; omega)]; rfl
  rw [ec]
  have hz : (List.zipWith (fun x y : Int => y - x) a b).length = a.length := by rw [List.length_zipWith, hl]; exact Nat.min_self _
  unfold turns
  cases i with
  | zero =>
    rw [if_pos (by omega)]
    show some (cover ds (-1) % m) = some (0 % m)
    rw [z1]
  | succ j =>
    rw [List.append_assoc, List.singleton_append, List.getElem?_cons_succ]
    by_cases h1 : j < a.length
    · rw [if_pos (by omega), List.getElem?_append_left (by omega), List.getElem?_zipWith]
      have ea := List.getElem?_eq_getElem h1
      have eb : b[j]? = some ((a[j] + cover ds (j : Int)) % m) := by rw [← hb, behind_get, ea]; rfl
      rw [ea, eb]
      show some (cover ds (((j + 1 : Nat) : Int) - 1) % m) = some (((a[j] + cover ds (j : Int)) % m - a[j]) % m)
      rw [show ((j + 1 : Nat) : Int) - 1 = (j : Int) by omega, Int.emod_sub_emod]
      congr 2; omega
    · rw [List.getElem?_append_right (by omega), hz]
      by_cases h2 : j = a.length
      · subst h2
        rw [if_pos (by omega), Nat.sub_self]
        show some (cover ds (((a.length + 1 : Nat) : Int) - 1) % m) = some (0 % m)
        rw [show ((a.length + 1 : Nat) : Int) - 1 = (a.length : Int) by omega, z2]
      · rw [if_neg (by omega)]
        obtain ⟨k, hk⟩ : ∃ k, j - a.length = k + 1 := ⟨j - a.length - 1, by omega⟩
        rw [hk]; rfl
theorem deeds_sol {m : Int} {a b : List Int} {ds : List Deed} (hok : DeedsOk a.length ds) (hb : behind m a ds = b) : Sol m (raw a b) (diffs (covers a.length ds)) := by
  refine ⟨diffs_mod (covers_mod hok hb), ?_⟩
  obtain ⟨z1, z2⟩ := cover_out hok
  rw [covers_sum, z1, z2]; rfl
/-- what the law asks of deeds and a mark -/
def Right (m : Int) (a b : List Int) (ds : List Deed) (k : Int) : Prop := DeedsOk a.length ds ∧ behind m a ds = b ∧ 0 ≤ k ∧ k ≤ m ∧ m * steps ds = bound m k ((raw a b).map (· % m))
instance (n : Int) (d : Deed) : Decidable (DeedOk n d) := by unfold DeedOk; infer_instance
instance (n : Int) (ds : List Deed) : Decidable (DeedsOk n ds) := by unfold DeedsOk; infer_instance
instance (m : Int) (a b : List Int) (ds : List Deed) (k : Int) : Decidable (Right m a b ds k) := by unfold Right; infer_instance
theorem Right.fewest {m : Int} {a b : List Int} {ds : List Deed} {k : Int} (hm : 0 < m) (h : Right m a b ds k) : Fewest m (raw a b) (steps ds) := by
  obtain ⟨h1, h2, h3, h4, h5⟩ := h
  exact (fewest_of hm h3 h4 (deeds_sol h1 h2) (cost_covers h1) h5).1
end DR
namespace DR
/-! ### a walk from row to row, step by step -/
theorem steps_append (a b : List Deed) : steps (a ++ b) = steps a + steps b := by unfold steps; rw [List.map_append, sumI_append]
/-- a deed of one step -/
def UnitOk (n : Int) (u : Deed) : Prop := 0 ≤ u.1 ∧ u.1 < u.2.1 ∧ u.2.1 ≤ n ∧ (u.2.2 = 1 ∨ u.2.2 = -1)
theorem UnitOk.deed {n : Int} {u : Deed} (h : UnitOk n u) : DeedOk n u := ⟨h.1, h.2.1, h.2.2.1, by rcases h.2.2.2 with e | e <;> rw [e] <;> decide⟩
theorem cover_rep (f e s : Int) (i : Int) : ∀ k : Nat, cover (List.replicate k (f, e, s)) i = k * (if f ≤ i ∧ i < e then s else 0)
  | 0 => by
    show (0 : Int) = ((0 : Nat) : Int) * _
    rw [Int.natCast_zero, Int.zero_mul]
  | k + 1 => by
    rw [List.replicate_succ]
    show (if f ≤ i ∧ i < e then s else 0) + cover (List.replicate k (f, e, s)) i = _
    rw [cover_rep f e s i k, Int.natCast_add, Int.add_mul]
    show _ = _ + 1 * _
    rw [Int.one_mul]; omega
/-- each deed, step by step -/
theorem units_of {n : Int} : ∀ {ds : List Deed}, DeedsOk n ds → ∃ us : List Deed, (∀ u ∈ us, UnitOk n u) ∧ (∀ i, cover us i = cover ds i) ∧ (us.length : Int) = steps ds
  | [], _ => ⟨[], fun u hu => (nomatch hu), fun _ => rfl, rfl⟩
  | (f, e, s) :: r, h => by
    obtain ⟨us, h1, h2, h3⟩ := units_of (ds := r) (fun x hx => h x (List.mem_cons_of_mem _ hx))
    obtain ⟨g1, g2, g3, g4⟩ := h (f, e, s) List.mem_cons_self
    refine ⟨List.replicate s.natAbs (f, e, if 0 < s then 1 else -1) ++ us, ?_, ?_, ?_⟩
    · intro u hu
      rcases List.mem_append.mp hu with q | q
      · rw [List.eq_of_mem_replicate q]
        refine ⟨g1, g2, g3, ?_⟩
        show (if 0 < s then (1 : Int) else -1) = 1 ∨ (if 0 < s then (1 : Int) else -1) = -1
        split
        · exact .inl rfl
        · exact .inr rfl
      · exact h1 u q
    · intro i
      rw [cover_append, cover_rep, h2]
      show _ = (if f ≤ i ∧ i < e then s else 0) + cover r i
      congr 1
      by_cases c : f ≤ i ∧ i < e
      · rw [if_pos c, if_pos c]
        split
        · rw [Int.mul_one]; omega
        · rw [Int.mul_neg, Int.mul_one]
          have : s ≠ 0 := g4
          omega
      · rw [if_neg c, if_neg c, Int.mul_zero]
    · rw [List.length_append, List.length_replicate, steps_cons]
      have : ab s = (s.natAbs : Int) := by unfold ab; split <;> omega
      show ((s.natAbs + us.length : Nat) : Int) = ab s + steps r
      rw [this, ← h3]; omega
/-- rows met, with the steps taken -/
abbrev Met := List (List Int × Int)
def Has (es : Met) (y : List Int) (k : Int) : Prop := ∃ c, (y, c) ∈ es ∧ c ≤ k
theorem Has.more {es fs : Met} {y : List Int} {k : Int} (h : Has es y k) : Has (es ++ fs) y k := by
  obtain ⟨c, h1, h2⟩ := h
  exact ⟨c, List.mem_append_left _ h1, h2⟩
def Reach (n : Int) (start y : List Int) (c : Int) : Prop := ∃ us, DeedsOk start.length us ∧ behind n start us = y ∧ steps us = c
/-- all steps from row, cost c, are met -/
def AllF (n : Int) (es : Met) (row : List Int) (c : Int) (f : Nat) : Prop := ∀ u, UnitOk row.length u → u.1 < f → Has es (behind n row [u]) (c + 1)
def AllE (n : Int) (es : Met) (row : List Int) (c : Int) (f e : Nat) : Prop := ∀ u, UnitOk row.length u → u.1 = f → u.2.1 < e → Has es (behind n row [u]) (c + 1)
structure Walked (n : Int) (start : List Int) (es : Met) (at' : Nat) : Prop where
  nd : (es.map (·.1)).Nodup
  st : es[0]? = some (start, 0)
  path : ∀ e ∈ es, Reach n start e.1 e.2
  mono : ∀ (i j : Nat) (x y : List Int × Int), es[i]? = some x → es[j]? = some y → i ≤ j → x.2 ≤ y.2
  near : ∀ (x e : List Int × Int), es[at']? = some x → e ∈ es → e.2 ≤ x.2 + 1
  done : ∀ (j : Nat) (x : List Int × Int), j < at' → es[j]? = some x → AllF n es x.1 x.2 start.length
theorem Walked.start {n : Int} (s : List Int) (hr : RowOk n s) : Walked n s [(s, 0)] 0 := by
  refine ⟨by simp, rfl, fun e he => ?_, fun i j x y hi hj _ => ?_, fun x e hx he => ?_, fun j x hj _ => absurd hj (Nat.not_lt_zero _)⟩
  · rw [List.mem_singleton.mp he]
    exact ⟨[], fun d hd => (nomatch hd), behind_nil hr, rfl⟩
  · match i, j, hi, hj with
    | 0, 0, hi, hj =>
      rw [← Option.some.inj hi, ← Option.some.inj hj]
      exact Int.le_refl _
    | i + 1, _, hi, _ => simp at hi
    | 0, j + 1, _, hj => simp at hj
  · rw [← Option.some.inj hx, List.mem_singleton.mp he]
    show (0 : Int) ≤ 0 + 1
    decide
/-- the row in turn is done -/
theorem Walked.next {n : Int} {s : List Int} {es : Met} {k : Nat} {x : List Int × Int} (h : Walked n s es k) (hx : es[k]? = some x) (hd : AllF n es x.1 x.2 s.length) : Walked n s es (k + 1) := by
  refine ⟨h.nd, h.st, h.path, h.mono, fun y e hy he => ?_, fun j y hj hy => ?_⟩
  · have := h.near x e hx he
    have := h.mono k (k + 1) x y hx hy (by omega)
    omega
  · by_cases e : j = k
    · subst e
      rw [hx] at hy
      have := Option.some.inj hy
      subst this
      exact hd
    · exact h.done j y (by omega) hy
/-- a row is met for the first time -/
theorem Walked.add {n : Int} {s : List Int} {es : Met} {k : Nat} {x : List Int × Int} {u : Deed} (h : Walked n s es k) (hx : es[k]? = some x) (hu : UnitOk s.length u) (hnew : ∀ c, (behind n x.1 [u], c) ∉ es) :
    Walked n s (es ++ [(behind n x.1 [u], x.2 + 1)]) k := by
  have hk := (List.getElem?_eq_some_iff.mp hx).1
  have hxm := List.mem_of_getElem? hx
  have old : ∀ {i : Nat} {z : List Int × Int}, i < es.length → (es ++ [(behind n x.1 [u], x.2 + 1)])[i]? = some z → es[i]? = some z := fun {i z} hi e => by rw [List.getElem?_append_left hi] at e; exact e
  have last : ∀ {i : Nat} {z : List Int × Int}, ¬ i < es.length → (es ++ [(behind n x.1 [u], x.2 + 1)])[i]? = some z → z = (behind n x.1 [u], x.2 + 1) := fun {i z} hi e => by
    rw [List.getElem?_append_right (by omega)] at e
    have : i - es.length = 0 := by
      have := (List.getElem?_eq_some_iff.mp e).1
      simp at this
      omega
    rw [this] at e
    exact (Option.some.inj e).symm
  refine ⟨?_, ?_, fun e he => ?_, fun i j y z hi hj hij => ?_, fun y e hy he => ?_, fun j y hj hy => ?_⟩
  · rw [List.map_append]
    refine List.nodup_append.mpr ⟨h.nd, by simp, ?_⟩
    intro a ha b hb e
    have : b = behind n x.1 [u] := by simpa using hb
    subst this
    subst e
    obtain ⟨z, hz, e2⟩ := List.mem_map.mp ha
    exact hnew z.2 (by rw [← e2]; exact hz)
  · rw [List.getElem?_append_left (by omega)]; exact h.st
  · rcases List.mem_append.mp he with q | q
    · exact h.path e q
    · rw [List.mem_singleton.mp q]
      obtain ⟨us, p1, p2, p3⟩ := h.path x hxm
      refine ⟨us ++ [u], fun d hd => ?_, ?_, ?_⟩
      · rcases List.mem_append.mp hd with r | r
        · exact p1 d r
        · rw [List.mem_singleton.mp r]; exact hu.deed
      · rw [← behind_behind, p2]
      · rw [steps_append, p3, steps_cons]
        have : ab u.2.2 = 1 := by rcases hu.2.2.2 with e | e <;> rw [e] <;> decide
        rw [this]; rfl
  · by_cases h1 : i < es.length
    · by_cases h2 : j < es.length
      · exact h.mono i j y z (old h1 hi) (old h2 hj) hij
      · rw [last h2 hj]
        exact h.near x y hx (List.mem_of_getElem? (old h1 hi))
    · rw [last h1 hi, last (by omega) hj]
      exact Int.le_refl _
  · have e1 := old hk hy
    rw [hx] at e1
    have e2 := Option.some.inj e1
    subst e2
    rcases List.mem_append.mp he with q | q
    · exact h.near x e hx q
    · rw [List.mem_singleton.mp q]
      exact Int.le_refl _
  · have := h.done j y hj (old (by omega) hy)
    exact fun v hv hf => (this v hv hf).more
/-- at the end each row is met, with the fewest steps -/
theorem Walked.end {n : Int} {s : List Int} {es : Met} {k : Nat} (h : Walked n s es k) (hr : RowOk n s) (hend : es.length ≤ k) : ∀ (us : List Deed), (∀ u ∈ us, UnitOk s.length u) → Has es (behind n s us) us.length := by
  intro us
  have key : ∀ (l : Nat), l ≤ us.length → (∀ u ∈ us, UnitOk s.length u) → RowOk n s → Has es (behind n s (us.take l)) l := by
    intro l
    induction l with
    | zero =>
      intro _ _ hr
      rw [List.take_zero, behind_nil hr]
      exact ⟨0, List.mem_of_getElem? h.st, by decide⟩
    | succ l ih =>
      intro hl hu hr
      obtain ⟨c, h1, h2⟩ := ih (by omega) hu hr
      obtain ⟨j, hj⟩ := List.mem_iff_getElem?.mp h1
      have hjl := (List.getElem?_eq_some_iff.mp hj).1
      have hul : l < us.length := by omega
      have hd := h.done j _ (by omega) hj us[l] (by rw [behind_length]; exact hu _ (List.getElem_mem hul)) (by
        have := (hu _ (List.getElem_mem hul))
        have a := this.2.1
        have b := this.2.2.1
        omega)
      obtain ⟨c2, h3, h4⟩ := hd
      rw [behind_behind, ← take_snoc (List.getElem?_eq_getElem hul)] at h3
      exact ⟨c2, h3, by
        have h4' : c2 ≤ c + 1 := h4
        omega⟩
  intro hu
  have := key us.length (Nat.le_refl _) hu hr
  rw [List.take_length] at this
  exact this
theorem key_one : ∀ {es : Met} {y : List Int} {c d : Int}, (es.map (·.1)).Nodup → (y, c) ∈ es → (y, d) ∈ es → c = d
  | (z, a) :: r, y, c, d, hn, h1, h2 => by
    rw [List.map_cons, List.nodup_cons] at hn
    rcases List.mem_cons.mp h1 with e1 | e1 <;> rcases List.mem_cons.mp h2 with e2 | e2
    · have a1 := Prod.mk.inj e1
      have a2 := Prod.mk.inj e2
      rw [a1.2, a2.2]
    · exact absurd (List.mem_map_of_mem (f := (·.1)) e2) (by rw [show (y, d).1 = z from (Prod.mk.inj e1).1]; exact hn.1)
    · exact absurd (List.mem_map_of_mem (f := (·.1)) e1) (by rw [show (y, c).1 = z from (Prod.mk.inj e2).1]; exact hn.1)
    · exact key_one hn.2 e1 e2
/-- a walk from row to row takes as many steps as are told -/
theorem Walked.found {n : Int} {s y : List Int} {es : Met} {k : Nat} {ds : List Deed} {q : Int} (h : Walked n s es k) (hn : 0 < n) (hr : RowOk n s) (hend : es.length ≤ k) (hR : Right n s y ds q) : (y, steps ds) ∈ es := by
  obtain ⟨us, h1, h2, h3⟩ := units_of hR.1
  obtain ⟨c, h4, h5⟩ := h.end hr hend us h1
  have e : behind n s us = y := by rw [← hR.2.1]; exact behind_congr n s fun i _ => by rw [h2]
  rw [e] at h4
  obtain ⟨vs, p1, p2, p3⟩ := h.path _ h4
  have low := (hR.fewest hn).2 _ (deeds_sol p1 p2)
  have up := cost_covers p1
  have ec : c = steps ds := by
    have p3' : steps vs = c := p3
    omega
  rw [← ec]
  exact h4
/-! ### there are few rows -/
def rowsOf (n : Nat) : Nat → List (List Int)
  | 0 => [[]]
  | l + 1 => (List.range n).flatMap fun x : Nat => (rowsOf n l).map fun r => (x : Int) :: r
theorem mem_rowsOf {n : Nat} : ∀ (r : List Int), RowOk n r → r ∈ rowsOf n r.length
  | [], _ => List.mem_singleton.mpr rfl
  | x :: r, h => by
    have ih := mem_rowsOf r fun y hy => h y (List.mem_cons_of_mem _ hy)
    have hx := h x List.mem_cons_self
    show x :: r ∈ (List.range n).flatMap fun x : Nat => (rowsOf n r.length).map fun r => (x : Int) :: r
    refine List.mem_flatMap.mpr ⟨x.toNat, List.mem_range.mpr (by omega), List.mem_map.mpr ⟨r, ih, ?_⟩⟩
    congr 1; omega
theorem nodup_le {α : Type} [DecidableEq α] : ∀ (l t : List α), l.Nodup → (∀ x ∈ l, x ∈ t) → l.length ≤ t.length
  | [], t, _, _ => Nat.zero_le _
  | x :: l, t, hn, hs => by
    rw [List.nodup_cons] at hn
    have hx := hs x List.mem_cons_self
    have ih := nodup_le l (t.erase x) hn.2 fun y hy => (List.mem_erase_of_ne (fun e => hn.1 (by rw [← e]; exact hy))).mpr (hs y (List.mem_cons_of_mem _ hy))
    rw [List.length_erase_of_mem hx] at ih
    have := List.length_pos_of_mem hx
    rw [List.length_cons]; omega
theorem Walked.rows {n : Int} {s : List Int} {es : Met} {k : Nat} (h : Walked n s es k) (hn : 0 < n) {e : List Int × Int} (he : e ∈ es) : RowOk n e.1 ∧ e.1.length = s.length := by
  obtain ⟨us, p1, p2, p3⟩ := h.path e he
  rw [← p2]
  exact ⟨behind_ok hn _ _, behind_length _ _ _⟩
theorem Walked.few {n : Nat} {s : List Int} {es : Met} {k : Nat} (h : Walked n s es k) (hn : 2 ≤ n) (hn4 : n ≤ 4) (hl : s.length ≤ 3) : es.length ≤ 64 := by
  have q := nodup_le (es.map (·.1)) (rowsOf n s.length) h.nd fun x hx => by
    obtain ⟨e, he, rfl⟩ := List.mem_map.mp hx
    obtain ⟨a, b⟩ := h.rows (by omega) he
    rw [← b]
    exact mem_rowsOf _ a
  rw [List.length_map] at q
  have all : ∀ n ∈ [2, 3, 4], ∀ l ∈ [0, 1, 2, 3], (rowsOf n l).length ≤ 64 := by decide +kernel
  have := all n (by simp only [List.mem_cons, List.not_mem_nil, or_false]; omega) s.length (by simp only [List.mem_cons, List.not_mem_nil, or_false]; omega)
  omega
end DR
/-! generator expressions over a list, their elements anything that a rule says: the generator's turns -/
namespace DR
open PySem PySem.Spec PyProof.Rows L2 GenW

/-- the consumer's own object, where it has one -/
def pinsOf (So : Option Addr) (s : Shared) : List (Addr × Obj) := match So with
  | none => []
  | some S => (match s.heap.get? S with
    | some o => [(S, o)]
    | none => [])
theorem mem_pinsOf {So : Option Addr} {s : Shared} {p : Addr × Obj} (h : p ∈ pinsOf So s) : So = some p.1 ∧ s.heap.get? p.1 = some p.2 := by
  unfold pinsOf at h
  cases So with
  | none => cases h
  | some S =>
    dsimp only at h
    cases e : s.heap.get? S with
    | none => rw [e] at h; cases h
    | some o =>
      rw [e] at h
      have := List.mem_singleton.mp h
      subst this
      exact ⟨rfl, e⟩
theorem pinsOf_heap {So : Option Addr} {s s' : Shared} (h : s'.heap = s.heap) : pinsOf So s' = pinsOf So s := by
  unfold pinsOf
  cases So with
  | none => rfl
  | some S => dsimp only; rw [h]

section
variable {Y : Cx} {A : Around} {elt tg iter : Expr} {scope : Scope} {pos : Pos} {I a : Addr} {xs : List V} {So : Option Addr} {g : TG} {te : TE} {W : List V → L2.St → Hp → Prop} {Z : List V → V → L2.St → Hp → Prop}
/-- the generator's code -/
abbrev geC (elt tg iter : Expr) (scope : Scope) (pos : Pos) (I : Addr) (env : Env) : Code := .compLoop (.GeneratorExp elt [⟨tg, iter, [], 0⟩] scope pos) 0 (.ref I) .none env
/-- where it stands: the invariant, the iterator -/
def GeAt (Y : Cx) (I a : Addr) (i : Nat) (pins : List (Addr × Obj)) (σ : L2.St) (H : Hp) (s : Shared) : Prop := Inv Y pins σ H s ∧ H I = none ∧ s.heap.IsListIter I a i
def geP (Y : Cx) (So : Option Addr) (N : Nat) (W : List V → L2.St → Hp → Prop) : Nat → Shared → Shared → Prop := fun n s₀ s => n = 0 ∧ ∃ ys σ H, ys.length = N ∧ Inv Y (pinsOf So s₀) σ H s ∧ W ys σ H
def geY (Y : Cx) (So : Option Addr) (I a : Addr) (N : Nat) (W : List V → L2.St → Hp → Prop) (Z : List V → V → L2.St → Hp → Prop) : Protocol := fun n s₀ v s kap =>
  ∃ ys y σ H, n + 1 + ys.length = N ∧ RelV y v ∧ GeAt Y I a (ys.length + 1) (pinsOf So s₀) σ H s ∧ Z ys y σ H ∧
    ∀ s'', GeAt Y I a (ys.length + 1) (pinsOf So s'') σ H s'' → W (ys ++ [y]) σ H → kap (.send .none) s''

theorem seg_ge (hov : A.over (geC elt tg iter scope pos I Y.env) [] = Y.A) (hh : Y.A.handled = none) (hco : Y.env.scope.isCoroutine = false) (hex : I ∈ Y.ex) (hIa : a ≠ I) (hpn : ∀ p ∈ Y.pn, p.1 ≠ I) (hSo : So ≠ some I)
    (hxe : ∀ e s, ¬ Y.xe e s) (hg : PG Y tg g) (he : PE Y elt te) (hL : ∀ ys σ H, W ys σ H → SqL Y.K H a xs)
    (turn : ∀ ys x σ H, xs[ys.length]? = some x → W ys σ H → g x σ H fun σ1 H1 => te σ1 H1 fun y H2 => Z ys y σ1 H2) :
    ∀ (k : Nat) (ys : List V) (s₀ s : Shared) (σ : L2.St) (H : Hp), k + ys.length = xs.length → GeAt Y I a ys.length (pinsOf So s₀) σ H s → W ys σ H →
      Seg (model Y.prog Y.w) A (fun n s₀ r s₁ => r = .ok .next ∧ geP Y So xs.length W n s₀ s₁) (geY Y So I a xs.length W Z) k s₀ (geC elt tg iter scope pos I Y.env) ((model Y.prog Y.w).den (geC elt tg iter scope pos I Y.env)) [] s := by
  have nS : ∀ {s : Shared}, ∀ p ∈ pinsOf So s, p.1 ≠ I := fun {s} p hp z => hSo (by rw [← z]; exact (mem_pinsOf hp).1)
  intro k
  induction k with
  | zero =>
    intro ys s₀ s σ H hk hI hw
    obtain ⟨J, hn, hit⟩ := hI
    obtain ⟨its, rv, hl, hz⟩ := J.list (hL ys σ H hw)
    have hlen : its.length = ys.length := by rw [← rv.length]; omega
    show Seg _ A _ _ _ s₀ _ ((compTurn (.GeneratorExp elt [⟨tg, iter, [], 0⟩] scope pos) 0 (.ref I) .none Y.env).onRaise (leaving Y.env)) [] s
    rw [compTurn_gen, Sem.onRaise_eq_wrap]
    refine seg_bind_wrap (wpAny_standAt ?_)
    refine seg_bind_wrap ?_
    rw [hov]
    refine wpAny_pyNext_list_end hh hit hl.isList (by simp [hlen]) fun h' he' => ?_
    have J' := J.turned (t' := s.toks) (it := I) (h' := h') (fun b o hb e => he' b o hb e) hn (J.ok.exf I hex).1 (.inl hex) (J.ok.exf I hex).2 fun p hp => by
      rcases List.mem_append.mp hp with hp | hp
      · exact hpn p hp
      · exact nS p hp
    exact seg_end (.ok .next) ⟨rfl, rfl, ys, σ, H, by omega, J', hw⟩
  | succ k ih =>
    intro ys s₀ s σ H hk hI hw
    obtain ⟨J, hn, hit⟩ := hI
    obtain ⟨its, rv, hl, hz⟩ := J.list (hL ys σ H hw)
    have hlt : ys.length < xs.length := by omega
    have ex := List.getElem?_eq_getElem hlt
    obtain ⟨u, eu, ru⟩ := rv.get ex
    show Seg _ A _ _ _ s₀ _ ((compTurn (.GeneratorExp elt [⟨tg, iter, [], 0⟩] scope pos) 0 (.ref I) .none Y.env).onRaise (leaving Y.env)) [] s
    rw [compTurn_gen, Sem.onRaise_eq_wrap]
    refine seg_bind_wrap (wpAny_standAt ?_)
    refine seg_bind_wrap ?_
    rw [hov]
    refine wpAny_pyNext_list_item hit hl.isList (x := u) (by simpa using eu) fun h1 hit1 hs1 => ?_
    have J1 := J.turned (t' := s.toks) (it := I) (h' := h1) (fun b o hb e => hs1.extBut b o hb e) hn (J.ok.exf I hex).1 (.inl hex) (J.ok.exf I hex).2 fun p hp => by
      rcases List.mem_append.mp hp with hp | hp
      · exact hpn p hp
      · exact nS p hp
    obtain ⟨oi, ho, hc, hd⟩ := id hit1
    have J2 : Inv Y (pinsOf So s₀ ++ [(I, oi)]) σ H { s with heap := h1, toks := s.toks } := J1.pins_of fun p hp => by
      rcases List.mem_append.mp hp with hp | hp
      · exact J1.pin p (List.mem_append_right _ hp)
      · have e := List.mem_singleton.mp hp
        subst e
        exact ⟨ho, hn, (J.ok.exf I hex).1, J.ok.exfs I hex, fun v q => by rw [hd] at q; cases q⟩
    refine seg_bind_wrap (letGo_of_cls ho hc hd (by decide) ?_)
    refine seg_bind_wrap ?_
    rw [hov]
    refine wpAny_mono (hg.run _ _ σ H _ u _ J2 ru (turn ys _ σ H ex hw)) (fun _ s3 h3 => ?_) fun _ _ z => (hxe _ _ z).elim
    obtain ⟨σ1, H1, J3, q3⟩ := h3
    refine seg_bind_wrap ?_
    rw [hov]
    refine wpAny_tests_nil ?_
    simp only [if_true]
    have hy : ∀ v, yieldOut Y.env v = yieldValue v := fun v => by simp only [yieldOut, hco, Bool.false_eq_true, if_false]
    simp only [hy]
    rw [Sem.bind_eq_wrap', Sem.bind_eq_wrap', Sem.wrap_wrap, Sem.wrap_wrap]
    refine seg_wrap ?_
    rw [hov]
    refine wpAny_mono (he.run _ s3 σ1 H1 _ J3 q3) (fun v s4 h4 => ?_) fun _ _ z => (hxe _ _ z).elim
    obtain ⟨y, H2, J4, r4, z4⟩ := h4
    have pI := J4.pin (I, oi) (List.mem_append_right _ (List.mem_append_right _ (List.mem_singleton.mpr rfl)))
    have J5 : Inv Y (pinsOf So s₀) σ1 H2 s4 := J4.unpinned
    refine seg_at (seg_yield rfl rfl rfl ⟨ys, y, σ1, H2, by omega, r4, ⟨J5, pI.2.1, oi, pI.1, hc, hd⟩, z4, fun s'' h5 w5 => ?_⟩)
    have hl1 : (ys ++ [y]).length = ys.length + 1 := by rw [List.length_append]; rfl
    refine seg_again rfl (ih (ys ++ [y]) s'' s'' σ1 H2 (by omega) (by rw [hl1]; exact h5) w5)
end
end DR
namespace DR
open PySem PySem.Spec PyProof.Rows L2 GenW
section
variable {Y : Cx} {A : Around} {elt tg iter : Expr} {scope : Scope} {pos : Pos} {I a : Addr} {xs : List V} {So : Option Addr} {g : TG} {te : TE} {W : List V → L2.St → Hp → Prop} {Z : List V → V → L2.St → Hp → Prop}
theorem seg_geStart {s₀ s : Shared} {ys : List V} {k : Nat} (hit : s.heap.IsListIter I a 0)
    {R : GenEnd} {Yp : Protocol} (loop : Seg (model Y.prog Y.w) A R Yp k s₀ (geC elt tg iter scope pos I Y.env) ((model Y.prog Y.w).den (geC elt tg iter scope pos I Y.env)) [] s) :
    Seg (model Y.prog Y.w) A R Yp k s₀ (.compStart (.GeneratorExp elt [⟨tg, iter, [], 0⟩] scope pos) 0 (.ref I) .none Y.env)
      ((model Y.prog Y.w).den (.compStart (.GeneratorExp elt [⟨tg, iter, [], 0⟩] scope pos) 0 (.ref I) .none Y.env)) [] s := by
  show Seg _ A _ _ _ s₀ _ ((compStart (.GeneratorExp elt [⟨tg, iter, [], 0⟩] scope pos) 0 (.ref I) .none Y.env).onRaise (leaving Y.env)) [] s
  unfold compStart
  rw [Sem.onRaise_eq_wrap]
  show Seg _ A _ _ _ s₀ _ ((ask >>= _).wrap _ _ _ _) [] s
  refine seg_bind_wrap (wpAny_askSetting ?_)
  split
  · exact seg_again rfl loop
  · first
      | exact seg_bind_wrap (wpAny_rule (seg_bind_wrap (wpAny_standAt (seg_bind_wrap (wpAny_pyIter_listiter hit (seg_again rfl loop))))))
      | (refine seg_bind_wrap (wpAny_rule ?_); show Seg _ A _ _ _ s₀ _ ((standAt iter.pos >>= _).wrap _ _ _ _) [] s; exact seg_bind_wrap (wpAny_standAt (seg_bind_wrap (wpAny_pyIter_listiter hit (seg_again rfl loop)))))

/-- the generator's own object is pinned -/
def GePn (Y : Cx) (ga : Addr) (gn : Nat) : Prop := ∃ go nm qn, (ga, go) ∈ Y.pn ∧ go.cls = .type "generator" ∧ go.data = .fields #[.int gn 0, nm, qn] ∧ go.slots = #[]
theorem GePn.isGen {ga gn pins σ H s} (h : GePn Y ga gn) (J : Inv Y pins σ H s) : s.heap.IsGen ga gn := by
  obtain ⟨go, nm, qn, hm, hc, hd, hs⟩ := h
  exact ⟨go, nm, qn, (J.pin _ (List.mem_append_left _ hm)).1, hc, hd, hs⟩
/-- the generator sleeps at a turn -/
def GeS (Y : Cx) (So : Option Addr) (I a : Addr) (N : Nat) (W : List V → L2.St → Hp → Prop) (Z : List V → V → L2.St → Hp → Prop) (A : Around) (gn : Nat) (ys : List V) (σ : L2.St) (H : Hp) (s : Shared) : Prop :=
  GeAt Y I a ys.length (pinsOf So s) σ H s ∧ W ys σ H ∧ ∃ gs, s.gens[gn]? = some gs ∧ ∀ s'', GeAt Y I a ys.length (pinsOf So s'') σ H s'' → W ys σ H →
    gs.Goes (model Y.prog Y.w) A (fun n s₀ r s₁ => r = .ok .next ∧ geP Y So N W n s₀ s₁) (geY Y So I a N W Z) (N - ys.length) (.send .none) s''
theorem inv_gens {pins : List (Addr × Obj)} {σ : L2.St} {H : Hp} {s : Shared} (J : Inv Y pins σ H s) {g : Nat} {x : GenState} (hx : x.bare = true) : Inv Y pins σ H (s.setGen g x) :=
  J.call' (ch := []) rfl Un.refl J.hok (allBare_setGen J.bare hx) fun b hb => by simp at hb
theorem inv_heap {pins : List (Addr × Obj)} {σ : L2.St} {H : Hp} {s : Shared} {h' : Heap} (J : Inv Y pins σ H s) (k : ∀ b o, s.heap.get? b = some o → h'.get? b = some o) : Inv Y pins σ H { s with heap := h' } :=
  J.kept (t' := s.toks) k

theorem next_ge {E : Value → Shared → Prop} {N ga gn : Nat} {ys : List V} {σ : L2.St} {H : Hp} {s : Shared} {Q : Option Value → Shared → Prop} (hh : A.handled = none) (hroom : A.depth < recursionLimit) (hpn : GePn Y ga gn) (hS : GeS Y So I a N W Z A.in1 gn ys σ H s)
    (hQ : ∀ zs y v σ' H' s' gs, zs.length < N → RelV y v → GeAt Y I a (zs.length + 1) (pinsOf So s) σ' H' s' → Z zs y σ' H' → s'.gens[gn]? = some gs →
      (∀ s'', GeAt Y I a (zs.length + 1) (pinsOf So s'') σ' H' s'' → W (zs ++ [y]) σ' H' → N - ys.length = N - (zs.length + 1) + 1 ∧
        gs.Goes (model Y.prog Y.w) A.in1 (fun n s₀ r s₁ => r = .ok .next ∧ geP Y So N W n s₀ s₁) (geY Y So I a N W Z) (N - (zs.length + 1)) (.send .none) s'') → Q (some v) s')
    (hP : ∀ zs σ' H' s', N - ys.length = 0 → zs.length = N → Inv Y (pinsOf So s) σ' H' s' → W zs σ' H' → Q none s') : wpAny (model Y.prog Y.w) A (pyNext (.ref ga)) Q E s := by
  obtain ⟨⟨J, hn, hit⟩, hw, gs, hgs, hgo⟩ := hS
  have hgl : gn + 1 ≤ s.gens.size := (Array.getElem?_eq_some_iff.mp hgs).1
  have hp0 : pinsOf So (s.setGen gn .running) = pinsOf So s := pinsOf_heap rfl
  refine wpAny_gsz (n := gn + 1) hgl (wpAny_pyNext_genexpQ (P := geP Y So N W) (Y := geY Y So I a N W Z) (n := N - ys.length) hh J.nolimit hroom (hpn.isGen J) hgs (hgo (s.setGen gn .running) ⟨by rw [hp0]; exact inv_gens J rfl, hn, hit⟩ hw) (fun v s₁ gs' hb hv => ?_) (fun s₁ hp h' hk => ?_))
  · intro hsz
    obtain ⟨zs, y, σ', H', hlen, rv, ⟨J', hn', hit'⟩, hz, hkap⟩ := hv
    rw [hp0] at J'
    have hsz1 : gn < s₁.gens.size := by
      have q : (s₁.setGen gn gs').gens.size = s₁.gens.size := setGen_size _ _ _
      have hsz' : gn + 1 ≤ (s₁.setGen gn gs').gens.size := hsz
      omega
    refine hQ zs y v σ' H' _ gs' (by omega) rv ⟨inv_gens J' hb, hn', hit'⟩ hz (setGen_at hsz1) fun s'' h'' w'' => ?_
    have k := hkap s'' h'' w''
    cases e : N - ys.length with
    | zero =>
      rw [e] at k
      exact False.elim k
    | succ m =>
      rw [e] at k hlen
      have hm : N - (zs.length + 1) = m := by omega
      rw [hm]
      exact ⟨rfl, k⟩
  · intro _
    obtain ⟨h0, zs, σ', H', hlen, J', w'⟩ := hp
    rw [hp0] at J'
    refine hP zs σ' H' _ h0 hlen ?_ w'
    have J1 := inv_gens (g := gn) (x := .finished) J' rfl
    exact inv_heap J1 hk

/-- all(..) -/
theorem all_ge {R : Result → Shared → Prop} {N ga gn : Nat} {QF : L2.St → Hp → Prop} (hh : A.handled = none) (hroom : A.depth < recursionLimit) (hpn : GePn Y ga gn)
    (hF : ∀ σ H s', Inv Y [] σ H s' → QF σ H → R (.ok (.ret (.bool false))) s') (hT : ∀ ys σ H s', ys.length = N → Inv Y [] σ H s' → W ys σ H → R (.ok (.ret (.bool true))) s') :
    ∀ (k : Nat) (ys : List V) (σ : L2.St) (H : Hp) (s : Shared), N - ys.length = k → GeS Y none I a N W (fun ys y σ H => ∃ b, y = .bl b ∧ if b = true then W (ys ++ [y]) σ H else QF σ H) A.in1.in1 gn ys σ H s →
      codeAny (model Y.prog Y.w) A (.builtin "all.loop" ⟨[.ref ga], []⟩) R s := by
  have turn : ∀ (k : Nat), (∀ j, j < k → ∀ (ys : List V) (σ : L2.St) (H : Hp) (s : Shared), N - ys.length = j → GeS Y none I a N W (fun ys y σ H => ∃ b, y = .bl b ∧ if b = true then W (ys ++ [y]) σ H else QF σ H) A.in1.in1 gn ys σ H s →
      codeAny (model Y.prog Y.w) A (.builtin "all.loop" ⟨[.ref ga], []⟩) R s) → ∀ (ys : List V) (σ : L2.St) (H : Hp) (s : Shared), N - ys.length = k → GeS Y none I a N W (fun ys y σ H => ∃ b, y = .bl b ∧ if b = true then W (ys ++ [y]) σ H else QF σ H) A.in1.in1 gn ys σ H s →
      codeAny (model Y.prog Y.w) A (.builtin "all.loop" ⟨[.ref ga], []⟩) R s := by
    intro k ih ys σ H s hk hS
    refine codeAny_builtin F.entry_all_loop ?_
    rw [Around.under_plainId F.plain_all_loop _]
    show wpAny _ A.in1 (pyNext (.ref ga) >>= _) _ _ s
    refine wpAny_bind (next_ge (A := A.in1) hh hroom hpn hS (fun zs y v σ' H' s' gs hzN rv hG hz hgs hc => ?_) (fun zs σ' H' s' _ hl J w => ?_))
    · obtain ⟨b, rfl, hz⟩ := hz
      obtain rfl : v = Value.bool b := rv
      show wpAny _ A.in1 (_ >>= _) _ _ s'
      refine wpAny_bind (wpAny_holding (wpAny_truthy_bool ?_))
      refine wpAny_bind (wpAny_letGo ?_)
      cases b with
      | true =>
        simp only [if_true] at hz ⊢
        have hl1 : (zs ++ [V.bl true]).length = zs.length + 1 := by rw [List.length_append]; rfl
        refine wpAny_pure ⟨plainId_quiet F.plain_all_loop _, ih (N - (zs.length + 1)) ?_ (zs ++ [.bl true]) σ' H' s' (by rw [hl1]) ⟨by rw [hl1]; exact hG, hz, gs, hgs, fun s'' h'' w'' => ?_⟩⟩
        · have := (hc s' hG hz).1
          omega
        · rw [hl1] at h'' ⊢
          exact (hc s'' h'' w'').2
      | false =>
        simp only [Bool.false_eq_true, if_false] at hz ⊢
        exact wpAny_bind (wpAny_rule (wpAny_pure (hF σ' H' s' hG.1 hz)))
    · exact wpAny_bind (wpAny_rule (wpAny_pure (hT zs σ' H' s' hl J w)))
  intro k
  induction k using Nat.strongRecOn with
  | ind k ih => exact turn k ih
end
end DR
namespace DR
open PySem PySem.Spec PyProof.Rows L2 GenW
section
variable {Y : Cx} {A : Around} {I a : Addr} {W : List V → L2.St → Hp → Prop}
/-- an object out of the frame's reach may be changed by others -/
theorem inv_out {S : Addr} {o o' : Obj} {σ : L2.St} {H : Hp} {s : Shared} {h' : Heap} {t' : Nat} (J : Inv Y [(S, o)] σ H s) (hp : ∀ p ∈ Y.pn, p.1 ≠ S) (hA : Apart Y S)
    (k : ∀ b ob, b ≠ S → s.heap.get? b = some ob → h'.get? b = some ob) (e : h'.get? S = some o') (hd : ∀ v, o'.data ≠ .cell v) : Inv Y [(S, o')] σ H { s with heap := h', toks := t' } := by
  obtain ⟨_, hS0, hSL, hSf, _⟩ := J.pin (S, o) (List.mem_append_right _ (List.mem_singleton.mpr rfl))
  have J0 : Inv Y [] σ H s := J.pins_of fun p hp => by simp at hp
  have nt : ∀ b u, H b = some u → b ≠ S := fun b u q hb => by rw [hb, hS0] at q; cases q
  have nc : ∀ b, b ∉ [S] → b ≠ S := fun b hb e => hb (by rw [e]; exact List.mem_singleton.mpr rfl)
  have J1 : Inv Y [] σ H { s with heap := h', toks := t' } := by
    refine J0.step (g' := s.gens) (t' := t') (d' := s.drawn) (ch := [S]) (fun b hb => ?_)
      (fun b ob _ _ hc q _ => k b ob (nc b hc) q) (fun b ob _ _ hc q _ => ⟨ob.slots, k b ob (nc b hc) q⟩) (fun _ _ _ _ n => n) (fun b ob hc q => ⟨ob, k b ob (nc b hc) q⟩)
      (fun _ _ q => q) (fun _ _ _ q => q) (fun b ps q => ⟨#[], by rw [q]; simp⟩) (fun m hm => ?_) (fun b u q => ?_) J.bare
    · rw [List.mem_singleton.mp hb]
      refine ⟨.inr hA.1, hA.2.1, hA.2.2, fun p hp' => ?_⟩
      rcases List.mem_append.mp hp' with hp' | hp'
      · exact hp p hp'
      · simp at hp'
    · obtain ⟨ob, es, ep, ho, r⟩ := hm
      exact ⟨ob, es, ep, k _ ob (Ne.symm hSL) ho, r⟩
    · refine (J0.hok b u q).stay (fun c v hc y => k c v ?_ y) (fun _ y => y) fun _ _ y => y
      rcases hc with y | y
      · rw [y]; exact nt b u q
      · exact nt c _ y
  refine J1.pins_of fun p hp' => ?_
  rw [List.mem_singleton.mp hp']
  exact ⟨e, hS0, hSL, hSf, hd⟩
theorem pinsOf_some {S : Addr} {s : Shared} {o : Obj} (h : s.heap.get? S = some o) : pinsOf (some S) s = [(S, o)] := by
  unfold pinsOf
  dsimp only
  rw [h]
theorem take_one {vals : List Int} {zs : List V} {y : V} (h1 : zs = (vals.take zs.length).map V.int) (h2 : zs ++ [y] = (vals.take (zs.length + 1)).map V.int) : ∃ z, y = .int z ∧ (vals.take (zs.length + 1)).sum = (vals.take zs.length).sum + z := by
  have hl := congrArg List.length h2
  rw [List.length_append, List.length_singleton, List.length_map, List.length_take] at hl
  have hlt : zs.length < vals.length := by omega
  have e := List.getElem?_eq_getElem hlt
  have et : vals.take (zs.length + 1) = vals.take zs.length ++ [vals[zs.length]] := by rw [List.take_add_one, e]; rfl
  rw [et, List.map_append, ← h1] at h2
  have := List.append_cancel_left h2
  refine ⟨vals[zs.length], ?_, ?_⟩
  · simpa using this
  · rw [et, List.sum_append]
    simp
/-- sum(..): the numbers are vals -/
theorem sum_ge {R : Result → Shared → Prop} {N ga gn S : Nat} {vals : List Int} (hvl : vals.length = N) (hh : A.handled = none) (hroom : A.depth < recursionLimit) (hpn : GePn Y ga gn) (hpS : ∀ p ∈ Y.pn, p.1 ≠ S) (hAp : Apart Y S) (hSI : S ≠ I)
    (hW : ∀ ys σ H, W ys σ H → ys = (vals.take ys.length).map V.int)
    (hT : ∀ ys σ H s' t, ys.length = N → Inv Y [] σ H s' → W ys σ H → R (.ok (.ret (.int (vals.take N).sum t))) s') :
    ∀ (k : Nat) (ys : List V) (σ : L2.St) (H : Hp) (s : Shared) (tA : Tok) (c : Nat) (st : Int), N - ys.length = k → (st = 0 ∨ st = 2) → s.heap.get? S = some { cls := .type "list", dict := none, data := .seq #[.int (vals.take ys.length).sum tA] c, slots := #[] } →
      GeS Y (some S) I a N W (fun ys y σ H => W (ys ++ [y]) σ H) A.in1.in1 gn ys σ H s →
      codeAny (model Y.prog Y.w) A (.builtin "sum.loop" ⟨[.ref ga, .ref S, rawInt st, rawInt 0], []⟩) R s := by
  intro k
  induction k using Nat.strongRecOn with
  | ind k ih =>
    intro ys σ H s tA c st hk hst2 hS hG
    refine codeAny_builtin F.entry_sum_loop ?_
    rw [Around.under_plainId F.plain_sum_loop _]
    show wpAny _ A.in1 (seqItems? (.ref S) >>= _) _ _ s
    refine wpAny_bind (wpAny_seqItems hS rfl ?_)
    show wpAny _ A.in1 (tryCatch (pyNext (.ref ga)) _ >>= _) _ _ s
    have eP := pinsOf_some hS
    have hWy := hW _ _ _ hG.2.1
    refine wpAny_bind (wpAny_tryCatch (next_ge (A := A.in1) hh hroom hpn hG (fun zs y v σ' H' s' gs hzN rv hGe hz hgs hc => ?_) (fun zs σ' H' s' h0 hl J w => ?_)))
    · rw [eP] at hGe
      have hS' : s'.heap.get? S = some { cls := .type "list", dict := none, data := .seq #[.int (vals.take ys.length).sum tA] c, slots := #[] } := (hGe.1.pin _ (List.mem_append_right _ (List.mem_singleton.mpr rfl))).1
      -- the turn's place
      have hzl := congrArg List.length (hW _ _ _ hz)
      rw [List.length_append, List.length_singleton, List.length_map, List.length_take] at hzl
      have hGe0 : GeAt Y I a (zs.length + 1) (pinsOf (some S) s') σ' H' s' := by rw [pinsOf_some hS']; exact hGe
      have hm := (hc s' hGe0 hz).1
      have hlen : zs.length = ys.length := by omega
      have hl1 : (zs ++ [y]).length = zs.length + 1 := by rw [List.length_append]; rfl
      have hWz := hW _ _ _ hz
      rw [hl1] at hWz
      have hz0 : zs = (vals.take zs.length).map V.int := by
        have q := congrArg (List.take zs.length) hWz
        rw [List.take_left, ← List.map_take, List.take_take, Nat.min_eq_left (by omega)] at q
        exact q
      obtain ⟨z, rfl, esum⟩ := take_one hz0 hWz
      obtain ⟨t, rfl⟩ := (show ∃ t, v = Value.int z t from rv)
      rw [hlen] at esum
      obtain ⟨J, hn, hit⟩ := hGe
      obtain ⟨oi, hio, hic⟩ := hit
      -- behind the storing
      have next : ∀ (h' : Heap) (tk : Nat) (c' : Nat) (tA' : Tok) (st' : Int), (st' = 0 ∨ st' = 2) → (∀ b ob, b ≠ S → s'.heap.get? b = some ob → h'.get? b = some ob) →
          h'.get? S = some { cls := .type "list", dict := none, data := .seq #[.int ((vals.take ys.length).sum + z) tA'] c', slots := #[] } →
          codeAny (model Y.prog Y.w) A (.builtin "sum.loop" ⟨[.ref ga, .ref S, rawInt st', rawInt 0], []⟩) R { s' with heap := h', toks := tk } := by
        intro h' tk c' tA' st' hst' kp e'
        have J2 : Inv Y [(S, _)] σ' H' { s' with heap := h', toks := tk } := inv_out J hpS hAp kp e' fun v q => by cases q
        have G2 : GeAt Y I a (zs.length + 1) (pinsOf (some S) { s' with heap := h', toks := tk }) σ' H' { s' with heap := h', toks := tk } := by
          rw [pinsOf_some (s := { s' with heap := h', toks := tk }) e']
          exact ⟨J2, hn, oi, kp _ _ (Ne.symm hSI) hio, hic⟩
        refine ih (N - (zs.length + 1)) (by omega) (zs ++ [.int z]) σ' H' _ tA' c' st' (by rw [hl1]) hst' ?_ ⟨by rw [hl1]; exact G2, hz, gs, hgs, fun s'' h'' w'' => ?_⟩
        · rw [hl1, hlen, esum]
          exact e'
        · rw [hl1] at h'' ⊢
          exact (hc s'' h'' w'').2
      rcases hst2 with rfl | rfl
      · show wpAny _ A.in1 (if (_ : Bool) = true then (mkInt ((vals.take ys.length).sum + z) >>= _) else _) _ _ _
        split
        · refine wpAny_bind (wpAny_mkInt ?_)
          show wpAny _ A.in1 (updateSeq S (fun _ => #[.int ((vals.take ys.length).sum + z) s'.toks]) >>= _) _ _ _
          refine wpAny_bind ?_
          refine wpAny_updateSeq hS' rfl (wpAny_pure ⟨plainId_quiet F.plain_sum_loop _, ?_⟩)
          exact next _ _ _ s'.toks 0 (.inl rfl) (fun b ob hb e => (Heap.get?_update_other _ _ (Ne.symm hb)).trans e) (Heap.get?_update_self _ hS' rfl)
        · refine wpAny_bind (wpAny_rule ?_)
          refine wpAny_bind (wpAny_attempt (wpAny_holding (wpAny_add_int ?_)))
          show wpAny _ A.in1 (updateSeq S (fun _ => #[.int ((vals.take ys.length).sum + z) s'.toks]) >>= _) _ _ _
          refine wpAny_bind (wpAny_updateSeq hS' rfl ?_)
          have hS₂ := Heap.get?_update_self (Obj.mapSeq fun _ => #[Value.int ((vals.take ys.length).sum + z) s'.toks]) hS' rfl
          refine wpAny_bind (wpAny_letGo ?_)
          refine wpAny_bind (wpAny_updateSeq hS₂ rfl (wpAny_pure ⟨plainId_quiet F.plain_sum_loop _, ?_⟩))
          exact next _ _ _ s'.toks 2 (.inr rfl) (fun b ob hb e => (Heap.get?_update_other _ _ (Ne.symm hb)).trans ((Heap.get?_update_other _ _ (Ne.symm hb)).trans e)) (Heap.get?_update_self _ hS₂ rfl)
      · show wpAny _ A.in1 ((holding [Value.int z t] (binaryOp .Add (.int (vals.take ys.length).sum tA) (.int z t))).attempt >>= _) _ _ _
        refine wpAny_bind (wpAny_attempt (wpAny_holding (wpAny_add_int ?_)))
        show wpAny _ A.in1 (updateSeq S (fun _ => #[.int ((vals.take ys.length).sum + z) s'.toks]) >>= _) _ _ _
        refine wpAny_bind (wpAny_updateSeq hS' rfl ?_)
        have hS₂ := Heap.get?_update_self (Obj.mapSeq fun _ => #[Value.int ((vals.take ys.length).sum + z) s'.toks]) hS' rfl
        refine wpAny_bind (wpAny_letGo ?_)
        refine wpAny_bind (wpAny_updateSeq hS₂ rfl (wpAny_pure ⟨plainId_quiet F.plain_sum_loop _, ?_⟩))
        exact next _ _ _ s'.toks 2 (.inr rfl) (fun b ob hb e => (Heap.get?_update_other _ _ (Ne.symm hb)).trans ((Heap.get?_update_other _ _ (Ne.symm hb)).trans e)) (Heap.get?_update_self _ hS₂ rfl)
    · rw [eP] at J
      have hT' := hT zs σ' H' s' tA hl (J.pins_of fun p hp => by simp at hp) w
      rw [List.take_of_length_le (by omega)] at hT'
      have e : (vals.take ys.length).sum = vals.sum := by rw [List.take_of_length_le (by omega)]
      rw [← e] at hT'
      exact wpAny_pure hT'
end
end DR
/-! all that was tracked is as it was; the tables of code objects may have grown -/
namespace DR
open PySem PySem.Spec PyProof.Rows L2
class NT (o : HO) : Prop where
  nt : ∀ ps, o ≠ .tbl ps
instance {xs} : NT (.lst xs) := ⟨fun _ e => by cases e⟩
instance {xs} : NT (.tup xs) := ⟨fun _ e => by cases e⟩
instance {xs} : NT (.dK xs) := ⟨fun _ e => by cases e⟩
instance {xs} : NT (.dT xs) := ⟨fun _ e => by cases e⟩
instance {S n} : NT (.set S n) := ⟨fun _ e => by cases e⟩
instance {C dx fs} : NT (.ins C dx fs) := ⟨fun _ e => by cases e⟩
instance {x} : NT (.own x) := ⟨fun _ e => by cases e⟩
instance {x} : NT (.xd x) := ⟨fun _ e => by cases e⟩
instance {f x} : NT (.met f x) := ⟨fun _ e => by cases e⟩
instance {f x} : NT (.rng f x) := ⟨fun _ e => by cases e⟩
instance {f x} : NT (.frz f x) := ⟨fun _ e => by cases e⟩
instance {f} : NT (.ext f) := ⟨fun _ e => by cases e⟩
structure Same (H H' : Hp) : Prop where
  keep : ∀ b o, NT o → H b = some o → H' b = some o
  tab : ∀ b ps, H b = some (.tbl ps) → ∃ more, H' b = some (.tbl (ps ++ more)) ∧ (TriplesOk ps.toList → TriplesOk (ps ++ more).toList)
theorem Same.at {H H' : Hp} (s : Same H H') (b : Addr) (o : HO) [n : NT o] (h : H b = some o) : H' b = some o := s.keep b o n h
instance {H H' : Hp} : CoeFun (Same H H') (fun _ => ∀ (b : Addr) (o : HO) [NT o], H b = some o → H' b = some o) := ⟨fun s => Same.at s⟩
theorem nt_or (o : HO) : NT o ∨ ∃ ps, o = .tbl ps := by
  cases o <;> first | exact .inl inferInstance | exact .inr ⟨_, rfl⟩
theorem Same.of {H H' : Hp} (h : ∀ b o, H b = some o → H' b = some o) : Same H H' := ⟨fun b o _ e => h b o e, fun b ps e => ⟨#[], by rw [Array.append_empty]; exact h b _ e, by rw [Array.append_empty]; exact _root_.id⟩⟩
theorem Same.refl (H : Hp) : Same H H := .of fun _ _ h => h
theorem Same.trans {H H1 H2 : Hp} (a : Same H H1) (b : Same H1 H2) : Same H H2 := by
  refine ⟨fun c o n h => b.keep c o n (a.keep c o n h), fun c ps h => ?_⟩
  obtain ⟨m1, e1, t1⟩ := a.tab c ps h
  obtain ⟨m2, e2, t2⟩ := b.tab c _ e1
  exact ⟨m1 ++ m2, by rw [e2, Array.append_assoc], fun t => by rw [← Array.append_assoc]; exact t2 (t1 t)⟩
theorem Same.there {H H' : Hp} (s : Same H H') {b : Addr} {o : HO} (h : H b = some o) : ∃ u, H' b = some u := by
  rcases nt_or o with n | ⟨ps, e⟩
  · exact ⟨o, s.keep b o n h⟩
  · subst e
    obtain ⟨m, e, _⟩ := s.tab b ps h
    exact ⟨_, e⟩
theorem Same.free {H H' : Hp} (s : Same H H') {l : Addr} (h : H' l = Option.none) : H l = Option.none := by
  cases q : H l with
  | none => rfl
  | some o =>
    obtain ⟨u, e⟩ := s.there q
    rw [e] at h
    cases h
theorem Same.seq {K : PySem.W.Frag} {H H' : Hp} {a : Addr} {xs : List V} (e : Same H H') (h : SqL K H a xs) : SqL K H' a xs := by
  rcases h with (h | ⟨o, h⟩) | h
  · exact .inl (.inl (e _ _ h))
  · exact .inl (.inr ⟨o, e _ _ h⟩)
  · exact .inr h
theorem Same.made {H H1 : Hp} {x dx C : Addr} (nx : H x = Option.none) (nd : H dx = Option.none) (k : ∀ b o, (upd (upd H dx (.own x)) x (.ins C dx [])) b = some o → b ≠ x → H1 b = some o) : Same H H1 := .of fun b o e => by
  have h1 : b ≠ x := fun z => by rw [z, nx] at e; cases e
  have h2 : b ≠ dx := fun z => by rw [z, nd] at e; cases e
  exact k b o (by rw [upd_ne h1, upd_ne h2]; exact e) h1
/-- the table at P -/
abbrev TabG (H : Hp) (P : Addr) : Prop := GxR.TabG H P
def Tabs (T : List Addr) (H : Hp) : Prop := ∀ P ∈ T, TabG H P
theorem Same.tabG {H H' : Hp} {P : Addr} (s : Same H H') (t : TabG H P) : TabG H' P := by
  obtain ⟨ps, h, ht⟩ := t
  obtain ⟨m, e, t⟩ := s.tab P ps h
  exact ⟨_, e, t ht⟩
theorem Tabs.same {T : List Addr} {H H' : Hp} (t : Tabs T H) (s : Same H H') : Tabs T H' := fun P hP => s.tabG (t P hP)
/-- a table grows -/
theorem same_tab {H : Hp} {P : Addr} {ps more : Array Value} (h : H P = some (.tbl ps)) (t : TriplesOk (ps ++ more).toList) : Same H (upd H P (.tbl (ps ++ more))) := by
  refine ⟨fun b o n e => ?_, fun b qs e => ?_⟩
  · have hb : b ≠ P := fun z => by
      rw [z, h] at e
      exact n.nt ps (Option.some.inj e).symm
    rw [upd_ne hb]
    exact e
  · by_cases hb : b = P
    · subst hb
      rw [h] at e
      cases e
      exact ⟨more, upd_same, fun _ => t⟩
    · exact ⟨#[], by rw [upd_ne hb, Array.append_empty]; exact e, by rw [Array.append_empty]; exact _root_.id⟩
end DR
namespace DR
open PySem PySem.Spec PyProof.Rows L2 GenW
/-- the context of a generator expression's frame -/
abbrev gcx (X : Cx) (N : List Str) (A : Around) (s : Shared) (H : Hp) (cenv : Env) (I : Addr) (pn : List (Addr × Obj)) : Cx :=
  { X with A := A, N := N, s_0 := s, H_0 := H, env := cenv, outer := X.stack, stack := cenv :: X.stack, ex := [I], fn := fun _ => false, calm := true, pn := pn, xe := fun _ _ => False }
/-- its own scope: N its targets, then what it captures of the def, from the slots js -/
structure GSc (X : Cx) (scope : Scope) (N : List Str) (tn : Nat) (js : List Nat) : Prop where
  kind : scope.kind = .function
  co : scope.isCoroutine = false
  cell : ∀ y ∈ scope.names, y.2 ≠ .cell
  dot : scope.names.lookup (".0" : Str) = some NameKind.local
  uniq : ∀ y ∈ scope.names, scope.names.lookup y.1 = some y.2
  free : ∀ y ∈ scope.names, y.2 = .free → X.env.kindOf y.1 = some .cell ∨ X.env.kindOf y.1 = some .free
  len : N.length = tn + js.length
  caps : ∀ (i : Nat) (j : Nat), js[i]? = some j → ∃ x, N[tn + i]? = some x ∧ X.N[j]? = some x ∧ scope.names.lookup x = some .free
def gst (tn : Nat) (js : List Nat) (σ : L2.St) : L2.St := List.replicate tn none ++ js.map fun j => (σ[j]?).join
section
variable {X : Cx} {pins : List (Addr × Obj)} {σ : L2.St} {H : Hp} {s : Shared} {scope : Scope} {N : List Str} {tn : Nat} {js : List Nat}
theorem gst_at {i : Nat} {v : V} (h : (gst tn js σ)[i]? = some (some v)) : ∃ k j, i = tn + k ∧ js[k]? = some j ∧ σ[j]? = some (some v) := by
  unfold gst at h
  by_cases hi : i < tn
  · rw [List.getElem?_append_left (by simpa using hi), List.getElem?_replicate, if_pos hi] at h
    cases h
  · rw [List.getElem?_append_right (by simpa using hi), List.length_replicate, List.getElem?_map] at h
    cases e : js[i - tn]? with
    | none => rw [e] at h; cases h
    | some j =>
      rw [e] at h
      have h' : (σ[j]?).join = some v := Option.some.inj h
      refine ⟨i - tn, j, by omega, e, ?_⟩
      cases q : σ[j]? with
      | none => rw [q] at h'; cases h'
      | some w => rw [q] at h'; exact congrArg some h'
theorem clo_look (uniq : ∀ y ∈ scope.names, scope.names.lookup y.1 = some y.2) {cells : List (Str × Addr)} {x : Str} {c : Addr} (h : (cloFrom cells scope.names []).lookup x = some c) : scope.names.lookup x = some .free ∧ c = (cells.lookup x).getD 0 := by
  rcases cloFrom_mem (PySem.mem_of_lookup h) with hm | ⟨h1, h2⟩
  · cases hm
  · exact ⟨uniq _ h1, h2⟩
theorem clo_free {cells : List (Str × Addr)} {x : Str} (uniq : ∀ y ∈ scope.names, scope.names.lookup y.1 = some y.2) (h : scope.names.lookup x = some .free) : (cloFrom cells scope.names []).lookup x = some ((cells.lookup x).getD 0) := by
  obtain ⟨c', e'⟩ := mem_lookup (cloFrom_has (cells := cells) (acc := []) (PySem.mem_of_lookup h))
  rw [e', (clo_look uniq e').2]
/-- the frame of a generator expression, at a turn's start -/
theorem inv_gen {A' : Around} {C Ia : Addr} {code : Value} {s4 s'' : Shared} {H2 : Hp} {pn pins' : List (Addr × Obj)} (S : GSc X scope N tn js) (J : Inv X pins σ H2 s4) (hI : FpOk X pins H2 Ia) (hIl : Ia < s4.heap.objs.size) (hC : C = s4.heap.objs.size)
    (hA : A'.handled = none) (hf : A'.frames = some (genEnv scope (cloFrom X.env.cells scope.names []) C code builtinsNs X.env :: X.stack)) {m : Str → Option Value} (hns : s''.heap.Ns C m)
    (kp : ∀ b o, s4.heap.get? b = some o → s''.heap.get? b = some o) (hos : s''.os = s4.os) (hb : AllBare s''.gens)
    (hp : ∀ p ∈ pn ++ pins', s''.heap.get? p.1 = some p.2 ∧ C < p.1 ∧ ∀ v, p.2.data ≠ .cell v) :
    Inv (gcx X N A' s4 H2 (genEnv scope (cloFrom X.env.cells scope.names []) C code builtinsNs X.env) Ia pn) pins' (gst tn js σ) H2 s'' := by
  subst hC
  have has : ∀ x, scope.names.lookup x = some .free → ∃ c, X.env.cells.lookup x = some c := fun x h => by
    rcases S.free _ (PySem.mem_of_lookup h) rfl with k | k
    · exact J.ok.has _ (.inl k)
    · exact J.ok.has _ (.inr k)
  have cm : ∀ {y c}, (cloFrom X.env.cells scope.names []).lookup y = some c → X.env.cells.lookup y = some c ∧ c < s4.heap.objs.size := fun {y c} hm => by
    obtain ⟨h1, rfl⟩ := clo_look S.uniq hm
    obtain ⟨c, hc⟩ := has _ h1
    rw [hc]
    obtain ⟨w, z⟩ := J.cell _ _ hc
    exact ⟨rfl, z.lt⟩
  have okB : (gcx X N A' s4 H2 (genEnv scope (cloFrom X.env.cells scope.names []) s4.heap.objs.size code builtinsNs X.env) Ia pn).Ok := by
    refine ⟨J.ok.mod, S.kind, J.ok.glob, rfl, Nat.le_refl _, fun x y c e1 e2 => J.ok.inj x y c (cm e1).1 (cm e2).1, fun y hy => ?_, fun y c z e => ?_, fun _ => hA, hf, .inr ⟨rfl, rfl⟩, fun b hb => ⟨?_, fun y c e z => ?_⟩, J.bs, Nat.le_trans J.ok.bsz J.sz,
      fun b o e hb => ?_, fun b hb z => ?_, J.stack, J.stkFree⟩
    · rcases hy with hy | hy
      · exact absurd rfl (S.cell _ (PySem.mem_of_lookup (show scope.names.lookup y = some .cell from hy)))
      · exact ⟨_, clo_free S.uniq hy⟩
    · cases z
    · rw [List.mem_singleton.mp hb]
      exact Nat.ne_of_lt hIl
    · rw [List.mem_singleton.mp hb] at z
      exact hI.2.2.2.2.1 y c (cm e).1 z
    · rw [List.mem_singleton.mp hb] at e
      rcases hI.2.2.2.1 with z | z
      · exact J.ok.noex Ia o e z
      · exact absurd (Nat.lt_of_lt_of_le (Heap.lt_size e) (Nat.le_trans J.ok.bsz z)) (Nat.lt_irrefl _)
    · rw [List.mem_singleton.mp hb] at z
      rcases List.mem_cons.mp (J.stkSub Ia z) with z | z
      · exact hI.2.1 z
      · exact hI.2.2.1 z
  refine ⟨okB, hos, hb, Un.kept kp, ⟨m, hns, fun i y av e1 e2 e3 => ?_⟩, fun y c e => ?_, ?_, fun y c e => J.freeC y c (cm e).1, fun p hp' => ?_, J.hok.kept kp, ?_⟩
  · obtain ⟨k, j, rfl, hj, hσ⟩ := gst_at e2
    obtain ⟨x, h1, h2, h3⟩ := S.caps k j hj
    have e1' : N[tn + k]? = some y := e1
    rw [h1] at e1'
    have exy : x = y := Option.some.inj e1'
    subst exy
    obtain ⟨mm, _, hl⟩ := J.loc
    have hvis : Vis X.env.scope x := (S.free _ (PySem.mem_of_lookup h3) rfl).elim (fun k => .inr (.inl k)) (fun k => .inr (.inr k))
    obtain ⟨w, r, q⟩ := hl j x av h2 hσ hvis
    refine ⟨w, r, .inr ⟨.inr h3, ?_⟩⟩
    obtain ⟨c, hc⟩ := has _ h3
    have hcl : (cloFrom X.env.cells scope.names []).lookup x = some c := by
      rw [clo_free S.uniq h3, hc]
      rfl
    rcases q with ⟨kk, _⟩ | ⟨_, c', e', z⟩
    · rcases S.free _ (PySem.mem_of_lookup h3) rfl with k' | k' <;> rw [show X.env.kindOf x = _ from k'] at kk <;> cases kk
    · rw [hc] at e'
      cases e'
      exact ⟨c, hcl, z.keeps kp⟩
  · obtain ⟨w, z⟩ := J.cell y c (cm e).1
    exact ⟨w, z.keeps kp⟩
  · exact J.hok.fresh (Nat.le_refl _)
  · obtain ⟨h1, h2, h3⟩ := hp p hp'
    have hlt : s4.heap.objs.size ≤ p.1 := Nat.le_of_lt h2
    refine ⟨h1, J.hok.fresh hlt, Nat.ne_of_gt h2, fun z => ?_, h3⟩
    have z' : p.1 ∈ frs X.stack := z
    rcases List.mem_cons.mp (J.stkSub _ z') with e | e
    · have := J.lt
      rw [← e] at this
      exact absurd (Nat.lt_of_lt_of_le this hlt) (Nat.lt_irrefl _)
    · exact J.nofs hlt e
  · show (gst tn js σ).length = N.length
    unfold gst
    rw [List.length_append, List.length_replicate, List.length_map, S.len]
/-- what stands behind the making of a generator -/
structure GMk (X : Cx) (pins : List (Addr × Obj)) (σ : L2.St) (N : List Str) (tn : Nat) (js : List Nat) (scope : Scope) (elt tg iter : Expr) (gpos : Pos) (a : Addr) (H2 : Hp) (s4 s5 : Shared) (code : Value) (Ia ga : Addr) (gn : Nat) (go : Obj) : Prop where
  inv : Inv X pins σ H2 s4
  fp : FpOk X pins H2 Ia
  ne : a ≠ Ia
  it : Ia < s4.heap.objs.size
  lt : s4.heap.objs.size < ga
  sz : s5.heap.objs.size = ga + 1
  cls : go.cls = .type "generator"
  data : ∃ nm qn, go.data = .fields #[.int gn 0, nm, qn]
  slots : go.slots = #[]
  gen : s5.heap.get? ga = some go
  itr : s5.heap.IsListIter Ia a 0
  fresh : s5.gens[gn]? = some (.fresh (.compStart (.GeneratorExp elt [⟨tg, iter, [], 0⟩] scope gpos) 0 (.ref Ia) .none (genEnv scope (cloFrom X.env.cells scope.names []) s4.heap.objs.size code builtinsNs X.env)))
  bare : AllBare s5.gens
  os : s5.os = s4.os
  keep : ∀ b o, s4.heap.get? b = some o → s5.heap.get? b = some o
  ns : ∃ m, s5.heap.Ns s4.heap.objs.size m
theorem ge_make {c P : Addr} {elt tg iter : Expr} {gpos : Pos} {te : TE} {k : Nat} {Q' : Value → Shared → Prop} {R : Addr → List V → Hp → Prop} (hr : Room k X.A) (TB : GxR.TabB X.base X.mg c P) (hcode : X.env.code = .ref c) (S : GSc X scope N tn js) (hi : PE X iter te)
    (hs : ∀ v, genFold iter X.env v = pure v) (I : Inv X pins σ H s) (h : te σ H fun v H1 => ∃ a xs, v = .ref a ∧ SqL X.K H1 a xs ∧ TabG H1 P ∧ R a xs H1)
    (hQ : ∀ a xs H1 H2 s4 s5 code Ia ga gn go, R a xs H1 → SqL X.K H1 a xs → Same H1 H2 → GMk X pins σ N tn js scope elt tg iter gpos a H2 s4 s5 code Ia ga gn go → Q' (.ref ga) s5) :
    wpAny (model X.prog X.w) X.A (eval (.GeneratorExp elt [⟨tg, iter, [], 0⟩] scope gpos) X.env) Q' X.xe s := by
  have hfree : ∀ y ∈ scope.names, y.2 = .free → ∃ c, X.env.cells.lookup y.1 = some c := fun y hy e => by
    rcases S.free y hy e with k | k
    · exact I.ok.has _ (.inl k)
    · exact I.ok.has _ (.inr k)
  refine wpAny_GeneratorExp_make S.co (closure_ok hfree) S.cell S.dot S.kind (by have := hr.dp; omega) ?_ hs
  refine thn (hi.run pins s σ H _ I h) fun xv s1 ⟨v, H1, I1, r1, q1⟩ => ?_
  obtain ⟨a, xs, rfl, hS, ⟨ps, hP, ht⟩, q1⟩ := q1
  obtain rfl : xv = Value.ref a := r1
  obtain ⟨its, rv, hl, hz⟩ := I1.list hS
  refine wpAny_pyIter_list hl.isList ?_
  generalize ho : ({ cls := .type "list_iterator", data := .fields #[.ref a, .int 0 0] } : Obj) = o
  have hitr : (s1.heap.push o).IsListIter s1.heap.objs.size a 0 := by
    subst ho
    exact ⟨_, Heap.get?_push_size _ rfl, rfl, rfl⟩
  have halt : a < s1.heap.objs.size := by
    obtain ⟨_, e, _⟩ := _root_.id hl.isList
    exact Heap.lt_size e
  have hPs : s1.heap.get? P = some { cls := .none, data := .fields ps } := I1.hok P _ hP
  have hPlt : P < s1.heap.objs.size := Heap.lt_size hPs
  have hP2 : (s1.heap.push o).get? P = some { cls := .none, data := .fields ps } := Heap.get?_push_of_some _ hPs
  have cd : PySem.W.CodeHd (s1.heap.push o) c P := TB.code.keeps fun b u e => Heap.get?_push_of_some _ (I1.bk b u e)
  have lim2 : (s1.heap.push o).NoLimit := I1.nolimit.push o
  have fI : ∀ {H' : Hp}, H' s1.heap.objs.size = none → FpOk X pins H' s1.heap.objs.size := fun {H'} hn => I1.fpOk (Nat.le_refl _) hn
  have cont : ∀ (code : Value) (h3 : Heap) (tk : Nat) (H2 : Hp), Inv X pins σ H2 { s1 with heap := h3, toks := tk } → Same H1 H2 → H2 s1.heap.objs.size = none → (∀ b o', b ≠ P → (s1.heap.push o).get? b = some o' → h3.get? b = some o') → (s1.heap.push o).objs.size ≤ h3.objs.size →
      wpAny (model X.prog X.w) X.A (builtinsFor X.env.globals X.env.builtins) (fun bi s₄ => ∀ h', h'.Ns s₄.heap.objs.size (fun y => if y = ".0" then some (.ref s1.heap.objs.size) else none) → Heap.SameBut s₄.heap.objs.size (s₄.heap.push { cls := .type "frame", data := .dict #[] }) h' →
          Q' (.ref h'.objs.size) { s₄ with
            gens := s₄.gens.push (.fresh (.compStart (.GeneratorExp elt [⟨tg, iter, [], 0⟩] scope gpos) 0 (.ref s1.heap.objs.size) .none (genEnv scope (cloFrom X.env.cells scope.names []) s₄.heap.objs.size code bi X.env))),
            toks := s₄.toks + 1 + 1 + 1,
            heap := h'.push { cls := .type "generator", data := .fields #[.int s₄.gens.size 0, .str "<genexpr>" (s₄.toks + 1), .str (X.env.qual ++ "<genexpr>") (s₄.toks + 1 + 1)] } }) X.xe { s1 with heap := h3, toks := tk } := by
    intro code h3 tk H2 J sm nI kp hsz
    obtain ⟨bm, ob, e1, e2, e3, e4, e5, e6, e7, e8⟩ := TB.bm
    refine wpAny_builtinsFor (m := X.mg) (by rw [I1.ok.glob]; exact J.mod.glob.keeps J.bk) e1 e2 (J.bk _ _ e5) e6 e7 e8 ?_
    intro h' hn' hs'
    have sz2 : (s1.heap.push o).objs.size = s1.heap.objs.size + 1 := Heap.size_push ..
    have hIlt : s1.heap.objs.size < h3.objs.size := by omega
    have hsz' : h'.objs.size = h3.objs.size + 1 := by rw [hs'.1, Heap.size_push]
    have keep' : ∀ b o', h3.get? b = some o' → h'.get? b = some o' := fun b o' e => hs'.extBut b o' (Nat.ne_of_lt (Heap.lt_size e)) (Heap.get?_push_of_some _ e)
    have hIP : s1.heap.objs.size ≠ P := Nat.ne_of_gt hPlt
    refine hQ a xs H1 H2 { s1 with heap := h3, toks := tk } _ code s1.heap.objs.size h'.objs.size s1.gens.size _ q1 hS sm ⟨J, fI nI, Nat.ne_of_lt halt, hIlt, ?_, ?_, rfl, ⟨_, _, rfl⟩, rfl, Heap.get?_push_size _ rfl, ?_, Array.getElem?_push_size .., I1.bare.push rfl, rfl, fun b o' e => Heap.get?_push_of_some _ (keep' b o' e), ⟨_, hn'.push _⟩⟩
    · show h3.objs.size < h'.objs.size
      omega
    · rw [Heap.size_push]
    · obtain ⟨oi, e, r⟩ := hitr
      exact ⟨oi, Heap.get?_push_of_some _ (keep' _ _ (kp _ _ hIP e)), r⟩
  refine ⟨lim2, ?_⟩
  have J0 : Inv X pins σ H1 { s1 with heap := s1.heap.push o } := inv_heap I1 fun b u e => Heap.get?_push_of_some _ e
  have nI0 : H1 s1.heap.objs.size = none := I1.hok.fresh (Nat.le_refl _)
  cases hf : codeAmong gpos ps.toList with
  | none =>
    refine wpAny_genexprCodeX hcode (cd.code hP2 ht) (cd.tab hP2) hf fun c' h' tk hx hge hlt hco' _ htab' _ => ?_
    obtain ⟨o1, vs, f1, tf, fl, tg', inF, tx, tt, op, _, _, _, _, _, _, _, _, _, htr, _⟩ := hco'
    have J := GxR.inv_tab (t' := tk) (g' := s1.gens) (d' := s1.drawn) (h' := h') (more := #[rawInt gpos.line, rawInt gpos.col, .ref c']) J0 hP (fun b u hb e => hx b u hb e) htab'.2 I1.bare
    refine cont (.ref c') h' tk _ J (same_tab hP htr) ?_ (fun b u hb e => hx b u hb e) (Nat.le_trans hge (Nat.le_of_lt hlt))
    rw [upd_ne (Nat.ne_of_gt hPlt)]
    exact nI0
  | some cv =>
    refine wpAny_genexprCode_hit hcode (cd.code hP2 ht) hf ?_
    exact cont cv (s1.heap.push o) s1.toks H1 J0 (Same.refl _) nI0 (fun _ _ _ e => e) (Nat.le_refl _)
end
end DR
namespace DR
open PySem PySem.Spec PyProof.Rows L2 GenW
/-- all(elt for target in e), e a list -/
def tAllG (K : PySem.W.Frag) (P : Addr) (tn : Nat) (js : List Nat) (te : TE) (g : TG) (tel : TE) : TE := fun σ H Q => te σ H fun v H1 => ∃ a xs, v = .ref a ∧ SqL K H1 a xs ∧ TabG H1 P ∧ ∀ H2, Same H1 H2 → ∃ W : List V → L2.St → Hp → Prop,
  W [] (gst tn js σ) H2 ∧ (∀ ys σ' H', W ys σ' H' → SqL K H' a xs) ∧
  (∀ ys x σ' H', xs[ys.length]? = some x → W ys σ' H' → g x σ' H' fun σ1 H3 => tel σ1 H3 fun y H4 => ∃ b, y = .bl b ∧ if b = true then W (ys ++ [y]) σ1 H4 else Q (.bl false) H4) ∧
  ∀ ys σ' H', ys.length = xs.length → W ys σ' H' → Q (.bl true) H'
/-- sum(elt for target in e), e a list; vals: the numbers -/
def tSumG (K : PySem.W.Frag) (P : Addr) (tn : Nat) (js : List Nat) (te : TE) (g : TG) (tel : TE) : TE := fun σ H Q => te σ H fun v H1 => ∃ a xs, v = .ref a ∧ SqL K H1 a xs ∧ TabG H1 P ∧ ∀ H2, Same H1 H2 → ∃ (W : List V → L2.St → Hp → Prop) (vals : List Int),
  vals.length = xs.length ∧ W [] (gst tn js σ) H2 ∧ (∀ ys σ' H', W ys σ' H' → SqL K H' a xs) ∧ (∀ ys σ' H', W ys σ' H' → ys = (vals.take ys.length).map V.int) ∧
  (∀ ys x σ' H', xs[ys.length]? = some x → W ys σ' H' → g x σ' H' fun σ1 H3 => tel σ1 H3 fun y H4 => W (ys ++ [y]) σ1 H4) ∧
  ∀ ys σ' H', ys.length = xs.length → W ys σ' H' → Q (.int vals.sum) H'
section
variable {X : Cx} {scope : Scope} {N : List Str} {tn : Nat} {js : List Nat} {c P : Addr} {elt tg iter : Expr} {p pos gpos : Pos} {te tel : TE} {g : TG} {k : Nat}
abbrev geA (X : Cx) (elt tg iter : Expr) (scope : Scope) (gpos : Pos) (Ia : Addr) (cenv : Env) : Around := X.A.in1.in1.over (geC elt tg iter scope gpos Ia cenv) []
theorem geA_room {Ia : Addr} {cenv : Env} (hr : Room (k + 1) X.A) : Room k (geA X elt tg iter scope gpos Ia cenv) := by
  refine ⟨hr.hd, ?_, ?_⟩
  · have := hr.dp
    show X.A.depth + 0 + 1 + 3 * k + 5 < _
    omega
  · have := hr.un
    show X.A.units + 1 + 1 + 0 + 3 + 16 * k + 200 < _
    omega
theorem geA_frames {Ia : Addr} {cenv : Env} (h : X.A.frames = some X.stack) : (geA X elt tg iter scope gpos Ia cenv).frames = some (cenv :: X.stack) := by
  show pushEnvs [cenv] (pushEnvs [] X.A.frames) = _
  rw [h]
  rfl
theorem un_gen {pins pins' : List (Addr × Obj)} {σ σ' : L2.St} {A' : Around} {s4 s' : Shared} {H2 H' : Hp} {cenv : Env} {Ia : Addr} {pn : List (Addr × Obj)} (J : Inv X pins σ H2 s4) (hI : FpOk X pins H2 Ia) (J' : Inv (gcx X N A' s4 H2 cenv Ia pn) pins' σ' H' s') : Inv X pins σ H' s' := by
  refine J.call' (ch := [Ia]) J'.os J'.base J'.hok J'.bare fun b hb => ?_
  rw [List.mem_singleton.mp hb]
  exact ⟨hI.2.2.2.1, hI.2.1, hI.2.2.2.2.1, hI.2.2.2.2.2⟩
theorem pe_allG (hr : Room (k + 1) X.A) (hg : Gl X "all") (hm : X.mg "all" = none) (TB : GxR.TabB X.base X.mg c P) (hcode : X.env.code = .ref c) (S : GSc X scope N tn js) (hi : PE X iter te)
    (hgt : ∀ (A' : Around) (s4 : Shared) (H2 : Hp) (cl : List (Str × Addr)) (C : Addr) (code : Value) (Ia : Addr) (pn : List (Addr × Obj)), PG (gcx X N A' s4 H2 (genEnv scope cl C code builtinsNs X.env) Ia pn) tg g)
    (hel : ∀ (A' : Around) (s4 : Shared) (H2 : Hp) (cl : List (Str × Addr)) (C : Addr) (code : Value) (Ia : Addr) (pn : List (Addr × Obj)), Room k A' → PE (gcx X N A' s4 H2 (genEnv scope cl C code builtinsNs X.env) Ia pn) elt tel)
    (hs : ∀ v, genFold iter X.env v = pure v := by intro _; rfl) (hb : bootBuiltins "all" = some (.builtin "all") := by decide +kernel)
    (he : starEach [.GeneratorExp elt [⟨tg, iter, [], 0⟩] scope gpos] X.env = (false, eval (.GeneratorExp elt [⟨tg, iter, [], 0⟩] scope gpos) X.env) :: starEach [] X.env := by rfl) :
    PE X (.Call (.Name "all" p) [.GeneratorExp elt [⟨tg, iter, [], 0⟩] scope gpos] [] pos) (tAllG X.K P tn js te g tel) := by
  refine ⟨fun pins s σ H Q I h => ?_⟩
  refine wpAny_Call_Name_kw (ld_blt I hg hm hb ?_)
  refine PyProof.Rows.callWith_builtin1 ?_ he (by rfl)
  rw [he]
  show wpAny _ _ (spliced ((false, eval (.GeneratorExp elt [⟨tg, iter, [], 0⟩] scope gpos) X.env) :: backTo pos (starEach [] X.env))) _ _ s
  refine Calls.spliced_cons (ge_make hr TB hcode S hi hs I h fun a xs H1 H2 s4 s5 code Ia ga gn go hR hS sm G => ?_)
  refine Calls.spliced_nil ?_
  obtain ⟨W, w0, wl, wt, we⟩ := hR H2 sm
  obtain ⟨nm, qn, hgd⟩ := G.data
  obtain ⟨m, hns⟩ := G.ns
  have hfr := G.fresh
  generalize hce : genEnv scope (cloFrom X.env.cells scope.names []) s4.heap.objs.size code builtinsNs X.env = cenv at *
  have hA : (geA X elt tg iter scope gpos Ia cenv).handled = none := hr.hd
  have J5 : Inv (gcx X N (geA X elt tg iter scope gpos Ia cenv) s4 H2 cenv Ia [(ga, go)]) [] (gst tn js σ) H2 s5 := by
    have := inv_gen (code := code) (s'' := s5) (pn := [(ga, go)]) (pins' := []) S G.inv G.fp G.it rfl hA (by rw [hce]; exact geA_frames I.ok.frames) hns G.keep G.os G.bare fun p hp => by
      have hp : p = (ga, go) := by simpa using hp
      subst hp
      exact ⟨G.gen, G.lt, fun v q => by rw [hgd] at q; cases q⟩
    rw [hce] at this
    exact this
  have hpn : GePn (gcx X N (geA X elt tg iter scope gpos Ia cenv) s4 H2 cenv Ia [(ga, go)]) ga gn := ⟨go, nm, qn, List.mem_singleton.mpr rfl, G.cls, hgd, G.slots⟩
  have hga : ga ≠ Ia := Nat.ne_of_gt (Nat.lt_trans G.it G.lt)
  have hgen : s5.heap.IsGen ga gn := hpn.isGen J5
  have hsg : ∀ (pn : List (Addr × Obj)), PG (gcx X N (geA X elt tg iter scope gpos Ia cenv) s4 H2 cenv Ia pn) tg g := fun pn => by rw [← hce]; exact hgt _ _ _ _ _ _ _ _
  have hse : ∀ (pn : List (Addr × Obj)), PE (gcx X N (geA X elt tg iter scope gpos Ia cenv) s4 H2 cenv Ia pn) elt tel := fun pn => by
    have := hel (geA X elt tg iter scope gpos Ia cenv) s4 H2 (cloFrom X.env.cells scope.names []) s4.heap.objs.size code Ia pn (geA_room hr)
    rw [hce] at this
    exact this
  have hsc : cenv.scope = scope := by rw [← hce]; rfl
  refine call_function_tree F.kind_all F.plain_all F.entry_all (F.args_all1 _) ?_
  unfold Builtin.«all»
  refine wpAny_bind (m := oneArg "all" _) (wpAny_pure ?_)
  refine wpAny_bind (wpAny_pyIter_gen hgen ?_)
  refine wpAny_pure ⟨plainId_quiet F.plain_all_loop _, ?_⟩
  refine all_ge (Y := gcx X N (geA X elt tg iter scope gpos Ia cenv) s4 H2 cenv Ia [(ga, go)]) (I := Ia) (a := a) (W := W) (N := xs.length) (QF := fun _ H' => Q (.bl false) H') hr.hd (by have := hr.dp; show X.A.depth < _; omega) hpn
    (fun σ' H' s' J' q => ⟨.bl false, H', un_gen G.inv G.fp J', rfl, q⟩) (fun ys σ' H' s' hl J' w => ⟨.bl true, H', un_gen G.inv G.fp J', rfl, we ys σ' H' hl w⟩) _ [] (gst tn js σ) H2 s5 rfl ⟨⟨J5, G.fp.1, G.itr⟩, w0, _, hfr, fun s'' h'' w'' => ⟨rfl, ?_⟩⟩
  refine seg_geStart (Y := gcx X N (geA X elt tg iter scope gpos Ia cenv) s4 H2 cenv Ia [(ga, go)]) (ys := []) h''.2.2 ?_
  exact seg_ge (Y := gcx X N (geA X elt tg iter scope gpos Ia cenv) s4 H2 cenv Ia [(ga, go)]) (So := none) (W := W) rfl hA (by rw [hsc]; exact S.co) (List.mem_singleton.mpr rfl) G.ne (fun p hp => by rw [List.mem_singleton.mp hp]; exact hga) (fun z => by cases z) (fun _ _ z => z) (hsg _) (hse _) wl wt
    xs.length [] s'' s'' (gst tn js σ) H2 rfl h'' w''
theorem pe_sumG (hr : Room (k + 1) X.A) (hg : Gl X "sum") (hm : X.mg "sum" = none) (TB : GxR.TabB X.base X.mg c P) (hcode : X.env.code = .ref c) (S : GSc X scope N tn js) (hi : PE X iter te)
    (hgt : ∀ (A' : Around) (s4 : Shared) (H2 : Hp) (cl : List (Str × Addr)) (C : Addr) (code : Value) (Ia : Addr) (pn : List (Addr × Obj)), PG (gcx X N A' s4 H2 (genEnv scope cl C code builtinsNs X.env) Ia pn) tg g)
    (hel : ∀ (A' : Around) (s4 : Shared) (H2 : Hp) (cl : List (Str × Addr)) (C : Addr) (code : Value) (Ia : Addr) (pn : List (Addr × Obj)), Room k A' → PE (gcx X N A' s4 H2 (genEnv scope cl C code builtinsNs X.env) Ia pn) elt tel)
    (hs : ∀ v, genFold iter X.env v = pure v := by intro _; rfl) (hb : bootBuiltins "sum" = some (.builtin "sum") := by decide +kernel)
    (he : starEach [.GeneratorExp elt [⟨tg, iter, [], 0⟩] scope gpos] X.env = (false, eval (.GeneratorExp elt [⟨tg, iter, [], 0⟩] scope gpos) X.env) :: starEach [] X.env := by rfl) :
    PE X (.Call (.Name "sum" p) [.GeneratorExp elt [⟨tg, iter, [], 0⟩] scope gpos] [] pos) (tSumG X.K P tn js te g tel) := by
  refine ⟨fun pins s σ H Q I h => ?_⟩
  refine wpAny_Call_Name_kw (ld_blt I hg hm hb ?_)
  refine PyProof.Rows.callWith_builtin1 ?_ he (by rfl)
  rw [he]
  show wpAny _ _ (spliced ((false, eval (.GeneratorExp elt [⟨tg, iter, [], 0⟩] scope gpos) X.env) :: backTo pos (starEach [] X.env))) _ _ s
  refine Calls.spliced_cons (ge_make hr TB hcode S hi hs I h fun a xs H1 H2 s4 s5 code Ia ga gn go hR hS sm G => ?_)
  refine Calls.spliced_nil ?_
  obtain ⟨W, vals, hvl, w0, wl, wv, wt, we⟩ := hR H2 sm
  obtain ⟨nm, qn, hgd⟩ := G.data
  obtain ⟨m, hns⟩ := G.ns
  have hfr := G.fresh
  generalize hce : genEnv scope (cloFrom X.env.cells scope.names []) s4.heap.objs.size code builtinsNs X.env = cenv at *
  have hA : (geA X elt tg iter scope gpos Ia cenv).handled = none := hr.hd
  have hsz5 := G.sz
  have hlt5 := G.lt
  have hgen0 : s5.heap.IsGen ga gn := ⟨go, nm, qn, G.gen, G.cls, hgd, G.slots⟩
  have hpn : GePn (gcx X N (geA X elt tg iter scope gpos Ia cenv) s4 H2 cenv Ia [(ga, go)]) ga gn := ⟨go, nm, qn, List.mem_singleton.mpr rfl, G.cls, hgd, G.slots⟩
  have hga : ga ≠ Ia := Nat.ne_of_gt (Nat.lt_trans G.it G.lt)
  have hIlt := G.it
  have hg5 : ga < s5.heap.objs.size := by rw [hsz5]; exact Nat.lt_succ_self _
  have h45 : s4.heap.objs.size < s5.heap.objs.size := Nat.lt_trans hlt5 hg5
  have hSI : s5.heap.objs.size ≠ Ia := Nat.ne_of_gt (Nat.lt_trans hIlt h45)
  have hsg : ∀ (pn : List (Addr × Obj)), PG (gcx X N (geA X elt tg iter scope gpos Ia cenv) s4 H2 cenv Ia pn) tg g := fun pn => by rw [← hce]; exact hgt _ _ _ _ _ _ _ _
  have hse : ∀ (pn : List (Addr × Obj)), PE (gcx X N (geA X elt tg iter scope gpos Ia cenv) s4 H2 cenv Ia pn) elt tel := fun pn => by
    have := hel (geA X elt tg iter scope gpos Ia cenv) s4 H2 (cloFrom X.env.cells scope.names []) s4.heap.objs.size code Ia pn (geA_room hr)
    rw [hce] at this
    exact this
  have hsc : cenv.scope = scope := by rw [← hce]; rfl
  have hloc : cenv.locals = s4.heap.objs.size := by rw [← hce]; rfl
  have hcells : cenv.cells = cloFrom X.env.cells scope.names [] := by rw [← hce]; rfl
  refine call_function_tree F.kind_sum F.plain_sum F.entry_sum (F.args_sum1 _) ?_
  unfold Builtin.«sum»
  simp only [List.length_cons, List.length_nil]
  rw [if_neg (by decide)]
  refine wpAny_bind (wpAny_of_eq (show Builtin.Builtins.bindParams "sum" ["start"] 0 { } = pure [none] from rfl) ?_)
  refine wpAny_bind (wpAny_pyIter_gen hgen0 ?_)
  refine wpAny_bind (wpAny_mkInt ?_)
  refine wpAny_bind (wpAny_pure ?_)
  simp only [List.forIn_cons, List.forIn_nil]
  refine wpAny_bind (wpAny_bind (wpAny_bind (wpAny_isInstance (T := "int") (b := false) (typeIs_int _ _ _) PySem.sub_int_str ?_)))
  simp only [Bool.false_eq_true, if_false]
  refine wpAny_pure (wpAny_bind (wpAny_bind (wpAny_isInstance (T := "int") (b := false) (typeIs_int _ _ _) PySem.sub_int_bytes ?_)))
  simp only [Bool.false_eq_true, if_false]
  refine wpAny_pure (wpAny_bind (wpAny_bind (wpAny_isInstance (T := "int") (b := false) (typeIs_int _ _ _) PySem.sub_int_bytearray ?_)))
  simp only [Bool.false_eq_true, if_false]
  refine wpAny_pure (wpAny_pure ?_)
  refine wpAny_bind (wpAny_newObj_type ?_)
  refine wpAny_pure ⟨plainId_quiet F.plain_sum_loop _, ?_⟩
  have kp6 : ∀ (o : Obj) b ob, s5.heap.get? b = some ob → (s5.heap.push o).get? b = some ob := fun o b ob e => Heap.get?_push_of_some _ e
  generalize hlo : ({ cls := .type "list", data := .seq #[.int 0 s5.toks] } : Obj) = lo
  generalize htk : s5.toks + 1 = tk
  have hget : (s5.heap.push lo).get? s5.heap.objs.size = some lo := by
    subst hlo
    exact Heap.get?_push_size _ rfl
  have hlod : ∀ v, lo.data ≠ .cell v := fun v q => by rw [← hlo] at q; cases q
  have J5 : Inv (gcx X N (geA X elt tg iter scope gpos Ia cenv) s4 H2 cenv Ia [(ga, go)]) [(s5.heap.objs.size, lo)] (gst tn js σ) H2 { s5 with heap := s5.heap.push lo, toks := tk } := by
    have := inv_gen (code := code) (s'' := { s5 with heap := s5.heap.push lo, toks := tk }) (pn := [(ga, go)]) (pins' := [(s5.heap.objs.size, lo)]) S G.inv G.fp G.it rfl hA (by rw [hce]; exact geA_frames I.ok.frames) (hns.push lo) (fun b ob e => kp6 lo b ob (G.keep b ob e)) G.os G.bare fun p hp => by
      have hp : p = (ga, go) ∨ p = (s5.heap.objs.size, lo) := by simpa using hp
      rcases hp with rfl | rfl
      · exact ⟨kp6 lo _ _ G.gen, G.lt, fun v q => by rw [hgd] at q; cases q⟩
      · exact ⟨hget, h45, hlod⟩
    rw [hce] at this
    exact this
  have hAp : Apart (gcx X N (geA X elt tg iter scope gpos Ia cenv) s4 H2 cenv Ia [(ga, go)]) s5.heap.objs.size := by
    refine ⟨Nat.le_of_lt h45, by show s5.heap.objs.size ≠ cenv.locals; rw [hloc]; exact Nat.ne_of_gt h45, fun x cc e z => ?_⟩
    obtain ⟨w, q⟩ := J5.cell x cc e
    have e' : cenv.cells.lookup x = some cc := e
    rw [hcells] at e'
    obtain ⟨f1, f2⟩ := clo_look S.uniq e'
    obtain ⟨cc', hcc⟩ : ∃ cc', X.env.cells.lookup x = some cc' := by
      rcases S.free _ (PySem.mem_of_lookup f1) rfl with k | k
      · exact I.ok.has _ (.inl k)
      · exact I.ok.has _ (.inr k)
    rw [hcc] at f2
    obtain ⟨w', q'⟩ := G.inv.cell _ _ hcc
    have := q'.lt
    have f3 : cc = cc' := f2
    have h5 : s5.heap.objs.size < s4.heap.objs.size := by rw [← z, f3]; exact q'.lt
    exact Nat.lt_irrefl _ (Nat.lt_trans h45 h5)
  have hS6 : (s5.heap.push lo).get? s5.heap.objs.size = some { cls := .type "list", dict := none, data := .seq #[.int (vals.take ([] : List V).length).sum s5.toks] 0, slots := #[] } := by
    rw [hget, ← hlo]
    simp
  have eP : pinsOf (some s5.heap.objs.size) { s5 with heap := s5.heap.push lo, toks := tk } = [(s5.heap.objs.size, lo)] := pinsOf_some hget
  have hit6 : (s5.heap.push lo).IsListIter Ia a 0 := by
    obtain ⟨oi, e, r⟩ := G.itr
    exact ⟨oi, kp6 lo _ _ e, r⟩
  refine codeAny_mono (sum_ge (Y := gcx X N (geA X elt tg iter scope gpos Ia cenv) s4 H2 cenv Ia [(ga, go)]) (I := Ia) (a := a) (W := W) (N := xs.length) (S := s5.heap.objs.size) (vals := vals)
    (R := fun r s' => match r with | .ok (.ret v) => EP X pins σ Q v s' | _ => False) hvl hr.hd (by have := hr.dp; show X.A.depth < _; omega) hpn
    (fun p hp => by rw [List.mem_singleton.mp hp]; exact Nat.ne_of_lt hg5) hAp hSI wv
    (fun ys σ' H' s' t hl J' w => ⟨.int (vals.take xs.length).sum, H', un_gen G.inv G.fp J', ⟨t, rfl⟩, by rw [List.take_of_length_le (by omega)]; exact we ys σ' H' hl w⟩)
    _ [] (gst tn js σ) H2 { s5 with heap := s5.heap.push lo, toks := tk } s5.toks 0 0 rfl (.inl rfl) hS6 ⟨⟨by rw [eP]; exact J5, G.fp.1, hit6⟩, w0, _, hfr, fun s'' h'' w'' => ⟨rfl, ?_⟩⟩) fun r s' hq => ?_
  · refine seg_geStart (Y := gcx X N (geA X elt tg iter scope gpos Ia cenv) s4 H2 cenv Ia [(ga, go)]) (ys := []) h''.2.2 ?_
    exact seg_ge (Y := gcx X N (geA X elt tg iter scope gpos Ia cenv) s4 H2 cenv Ia [(ga, go)]) (So := some s5.heap.objs.size) (W := W) rfl hA (by rw [hsc]; exact S.co) (List.mem_singleton.mpr rfl) G.ne (fun p hp => by rw [List.mem_singleton.mp hp]; exact hga) (fun z => hSI (Option.some.inj z)) (fun _ _ z => z) (hsg _) (hse _) wl wt
      xs.length [] s'' s'' (gst tn js σ) H2 rfl h'' w''
  · cases r with
    | error e => exact hq.elim
    | ok fl =>
      cases fl with
      | ret v => exact hq
      | next => exact hq.elim
      | brk => exact hq.elim
      | cont => exact hq.elim
end
end DR
namespace DR
open PySem PySem.Spec PyProof.Rows L2
/-! ### rules of our own -/
section
variable {X : Cx}
/-- xs[i] of a list, by values, for xs[i] op= e -/
def rGetL (K : PySem.W.Frag) : V → V → Hp → VK → Prop := fun o i H Q => ∃ p xs k v, o = .ref p ∧ i = .int k ∧ SqL K H p xs ∧ 0 ≤ k ∧ atI xs k = some v ∧ Q v H
theorem get_list : PGet X (rGetL X.K) := by
  intro pins s σ H x y v u Q I rx ry h
  obtain ⟨p, xs, i, z, rfl, rfl, hq, h0, he, q⟩ := h
  cases rx
  obtain ⟨t, rfl⟩ := ry
  obtain ⟨its, r, pl, hz⟩ := I.list hq
  obtain ⟨j, h1, h2, h3, h4, h5⟩ := atI_get he
  obtain ⟨w, ew, rw'⟩ := r.get h2
  have hn := line63
  have hj : i.toNat = j := by
    rw [seqIndex_of h0 h5] at h1
    exact Option.some.inj h1
  exact wpAny_getItem_list pl.isList h0 (by omega) (by rw [hj]; simpa using ew) ⟨z, H, I, rw', q⟩
/-- a op1 b op2 c op3 d -/
def tChain3 (r r' r'' : R2) (ta tb tc td : TE) : TE := fun σ H Q => ta σ H fun x H1 => tb σ H1 fun y H2 => r x y H2 fun z H3 => ∃ k, z = .bl k ∧
  (if k = true then tc σ H3 fun y' H4 => r' y y' H4 fun z' H5 => ∃ k', z' = .bl k' ∧ (if k' = true then td σ H5 fun w' H6 => r'' y' w' H6 Q else Q (.bl false) H5) else Q (.bl false) H3)
theorem pe_chain3 {op op' op'' : CmpOp} {r r' r'' : R2} {a b c d : Expr} {ta tb tc td : TE} {pos : Pos} (ho : OpR X (compareOp op) r) (ho' : OpR X (compareOp op') r') (ho'' : OpR X (compareOp op'') r'') (ha : PE X a ta) (hb : PE X b tb) (hc : PE X c tc) (hd : PE X d td)
    (hm : lastMarks [op, op', op''] [b, c, d] = false := by with_unfolding_all rfl) : PE X (.Compare a [op, op', op''] [b, c, d] pos) (tChain3 r r' r'' ta tb tc td) := by
  refine ⟨fun pins s σ H Q I h => ?_⟩
  refine Compare_chain (thn (ha.run pins s σ H _ I h) fun v s1 ⟨x, H1, I1, r1, q1⟩ => chain_link (thn (hb.run pins s1 σ H1 _ I1 q1) fun u s2 ⟨y, H2, I2, r2, q2⟩ =>
    thn (ho pins s2 σ H2 x y v u _ I2 r1 r2 q2) fun d' s3 ⟨z, H3, I3, r3, k, e, q3⟩ => ?_)) hm
  subst e
  cases r3
  refine wpAny_truthy_bool ?_
  cases k with
  | false => exact ite_ff ⟨.bl false, H3, I3, rfl, q3⟩
  | true =>
    refine ite_tt (chain_link (thn (hc.run pins s3 σ H3 _ I3 q3) fun w' s4 ⟨y', H4, I4, r4, q4⟩ => thn (ho' pins s4 σ H4 y y' u w' _ I4 r2 r4 q4) fun d2 s5 ⟨z', H5, I5, r5, k', e', q5⟩ => ?_))
    subst e'
    cases r5
    refine wpAny_truthy_bool ?_
    cases k' with
    | false => exact ite_ff ⟨.bl false, H5, I5, rfl, q5⟩
    | true => exact ite_tt (chain_last (thn (hd.run pins s5 σ H5 _ I5 q5) fun w2 s6 ⟨z2, H6, I6, r6, q6⟩ => ho'' pins s6 σ H6 y' z2 w' w2 Q I6 r4 r6 q6))
theorem pt_chain3 {op op' op'' : CmpOp} {r r' r'' : R2} {a b c d : Expr} {ta tb tc td : TE} {pos : Pos} (ho : OpR X (compareOp op) r) (ho' : OpR X (compareOp op') r') (ho'' : OpR X (compareOp op'') r'') (ha : PE X a ta) (hb : PE X b tb) (hc : PE X c tc) (hd : PE X d td)
    (hm : lastMarks [op, op', op''] [b, c, d] = false := by with_unfolding_all rfl) : PT X (.Compare a [op, op', op''] [b, c, d] pos) (tTest (tChain3 r r' r'' ta tb tc td)) := by
  refine ⟨fun pins s σ H Q I h => ?_⟩
  refine isTrue_chain (thn (ha.run pins s σ H _ I h) fun v s1 ⟨x, H1, I1, r1, q1⟩ => test_link (thn (hb.run pins s1 σ H1 _ I1 q1) fun u s2 ⟨y, H2, I2, r2, q2⟩ =>
    thn (ho pins s2 σ H2 x y v u _ I2 r1 r2 q2) fun d' s3 ⟨z, H3, I3, r3, k, e, q3⟩ => ?_)) hm
  subst e
  cases r3
  refine wpAny_truthy_bool ?_
  cases k with
  | false =>
    obtain ⟨k', e', q'⟩ := q3
    cases e'
    exact ite_ff ⟨H3, I3, q'⟩
  | true =>
    refine ite_tt (test_link (thn (hc.run pins s3 σ H3 _ I3 q3) fun w' s4 ⟨y', H4, I4, r4, q4⟩ => thn (ho' pins s4 σ H4 y y' u w' _ I4 r2 r4 q4) fun d2 s5 ⟨z', H5, I5, r5, k', e', q5⟩ => ?_))
    subst e'
    cases r5
    refine wpAny_truthy_bool ?_
    cases k' with
    | false =>
      obtain ⟨k2, e2, q'⟩ := q5
      cases e2
      exact ite_ff ⟨H5, I5, q'⟩
    | true =>
      refine ite_tt (test_last (thn (hd.run pins s5 σ H5 _ I5 q5) fun w2 s6 ⟨z2, H6, I6, r6, q6⟩ => thn (ho'' pins s6 σ H6 y' z2 w' w2 _ I6 r4 r6 q6) fun d3 s7 ⟨z3, H7, I7, r7, k3, e3, q7⟩ => ?_))
      subst e3
      cases r7
      exact wpAny_truthy_bool ⟨H7, I7, q7⟩
/-- * of two ints of not too many bits together -/
def CMulB (i j : Int) : Prop := IntMulOk i j
theorem op_mulB : OpR X (binaryOp .Mult) (rI CMulB fun i j => .int (i * j)) := opI fun _ _ _ _ _ _ _ hc q => mul_int q hc
end
/-! ### heaps -/
theorem same_new {H : Hp} {p : Addr} {o : HO} (h : H p = none) : Same H (upd H p o) := .of fun b x e => by
  rw [upd_ne (ne_of_none e h)]
  exact e
/-- an object that H does not know may change -/
theorem smut {H H' : Hp} {p : Addr} {o : HO} (e : Same H H') (h : H p = none) : Same H (upd H' p o) := by
  refine ⟨fun a u n ha => ?_, fun a ps ha => ?_⟩
  · rw [upd_ne (ne_of_none ha h)]
    exact e.keep a u n ha
  · rw [upd_ne (ne_of_none ha h)]
    exact e.tab a ps ha
theorem stup {K : PySem.W.Frag} {H H' : Hp} {a : Addr} {xs : List V} (e : Same H H') (h : SqT K H a xs) : SqT K H' a xs := by
  rcases h with (h | ⟨o, h⟩) | h
  · exact .inl (.inl (e _ _ h))
  · exact .inl (.inr ⟨o, e _ _ h⟩)
  · exact .inr h
theorem line_of {n : Nat} (h : n ≤ 100000) : n ≤ sizeLine := Nat.le_trans h (by decide)
theorem line_lt {n : Nat} (h : n < 100000) : n < sizeLine := Nat.lt_of_lt_of_le h (by decide)
theorem map_at {ns : List Int} {i : Nat} {x : V} (h : (ns.map V.int)[i]? = some x) : ∃ z, ns[i]? = some z ∧ x = .int z := by
  rw [List.getElem?_map] at h
  cases e : ns[i]? with
  | none => rw [e] at h; cases h
  | some z =>
    rw [e] at h
    exact ⟨z, rfl, (Option.some.inj h).symm⟩
theorem ref_at {as : List Addr} {i : Nat} {x : V} (h : (as.map V.ref)[i]? = some x) : ∃ z, as[i]? = some z ∧ x = .ref z := by
  rw [List.getElem?_map] at h
  cases e : as[i]? with
  | none => rw [e] at h; cases h
  | some z =>
    rw [e] at h
    exact ⟨z, rfl, (Option.some.inj h).symm⟩
theorem at_map {α : Type} {f : α → V} {xs : List α} {i : Nat} {x : α} (h : xs[i]? = some x) : (xs.map f)[i]? = some (f x) := by
  rw [List.getElem?_map, h]; rfl
theorem at_lt {α : Type} {xs : List α} {i : Nat} {x : α} (h : xs[i]? = some x) : i < xs.length := (List.getElem?_eq_some_iff.mp h).1
theorem cut_nat (xs : List V) (k : Nat) : cutV xs none (some (k : Int)) = xs.take k := by
  unfold cutV
  rw [HT.sIx_none, HT.sIx_nat, List.drop_zero, Nat.sub_zero]
  by_cases h : k ≤ xs.length
  · rw [Nat.min_eq_left h]
  · rw [Nat.min_eq_right (by omega), List.take_length, List.take_of_length_le (by omega)]
theorem cut_from (xs : List V) (k : Nat) : cutV xs (some (k : Int)) none = xs.drop k := by
  unfold cutV
  rw [HT.sIx_none, HT.sIx_nat]
  by_cases h : k ≤ xs.length
  · rw [Nat.min_eq_left h, List.take_of_length_le (by rw [List.length_drop]; omega)]
  · rw [Nat.min_eq_right (by omega), Nat.sub_self, List.take_zero, List.drop_of_length_le (by omega)]
theorem cut_last (xs : List V) (v : V) : cutV (xs ++ [v]) none (some (-1)) = xs := by
  unfold cutV
  rw [HT.sIx_none, List.drop_zero, Nat.sub_zero]
  have e : HT.sIx (xs ++ [v]).length (xs ++ [v]).length (some (-1)) = xs.length := by
    show (if (-1 : Int) < 0 then ((-1 : Int) + ((xs ++ [v]).length : Int)).toNat else min (-1 : Int).toNat (xs ++ [v]).length) = xs.length
    rw [if_pos (by decide), List.length_append, List.length_singleton]
    omega
  rw [e, List.take_left]
theorem ixN_nat {n k : Nat} (h : k < n) : ixN n (k : Int) = some k := by
  unfold ixN
  rw [if_pos (by omega), if_pos (by omega), Int.toNat_natCast]
theorem small_of {x : Int} {n : Nat} (h0 : 0 ≤ x) (h : x < 2 ^ n) : Builtin.Int.intBits x ≤ n := by
  rw [intBits_le_iff]
  have e : ((2 ^ n : Nat) : Int) = (2 : Int) ^ n := Int.natCast_pow 2 n
  omega
/-! ### deeds in the heap -/
def tri (d : Deed) : List V := [.int d.1, .int d.2.1, .int d.2.2]
structure DsAt (H : Hp) (as : List Addr) (ds : List Deed) : Prop where
  len : as.length = ds.length
  at_ : ∀ (j : Nat) (a : Addr), as[j]? = some a → ∃ d, ds[j]? = some d ∧ H a = some (.tup (tri d))
section
variable {H H' : Hp} {as bs : List Addr} {ds es : List Deed} {a : Addr} {d : Deed}
theorem DsAt.same (h : DsAt H as ds) (s : Same H H') : DsAt H' as ds := ⟨h.len, fun j a e => let ⟨d, h1, h2⟩ := h.at_ j a e; ⟨d, h1, s _ _ h2⟩⟩
theorem DsAt.nil : DsAt H [] [] := ⟨rfl, fun j a e => by simp at e⟩
theorem DsAt.append (h : DsAt H as ds) (k : DsAt H bs es) : DsAt H (as ++ bs) (ds ++ es) := by
  refine ⟨by rw [List.length_append, List.length_append, h.len, k.len], fun j a e => ?_⟩
  by_cases hj : j < as.length
  · rw [List.getElem?_append_left hj] at e
    obtain ⟨d, h1, h2⟩ := h.at_ j a e
    exact ⟨d, by rw [List.getElem?_append_left (by rw [← h.len]; exact hj)]; exact h1, h2⟩
  · rw [List.getElem?_append_right (by omega)] at e
    obtain ⟨d, h1, h2⟩ := k.at_ _ a e
    exact ⟨d, by rw [List.getElem?_append_right (by rw [← h.len]; omega), ← h.len]; exact h1, h2⟩
theorem DsAt.one (e : H a = some (.tup (tri d))) : DsAt H [a] [d] := ⟨rfl, fun j b h => by
  match j, h with
  | 0, h =>
    have : a = b := Option.some.inj h
    subst this
    exact ⟨d, rfl, e⟩
  | j + 1, h => simp at h⟩
theorem DsAt.snoc (h : DsAt H as ds) (e : H a = some (.tup (tri d))) : DsAt H (as ++ [a]) (ds ++ [d]) := h.append (DsAt.one e)
theorem DsAt.upd {c : Addr} {xs : List V} {o : HO} (h : DsAt H as ds) (hc : H c = some (.lst xs)) : DsAt (upd H c o) as ds := ⟨h.len, fun j b e => let ⟨d, h1, h2⟩ := h.at_ j b e; ⟨d, h1, by rw [upd_ne (ne_of h2 hc (by intro q; cases q))]; exact h2⟩⟩
theorem DsAt.take (h : DsAt H as ds) (n : Nat) : DsAt H (as.take n) (ds.take n) := by
  refine ⟨by rw [List.length_take, List.length_take, h.len], fun j a e => ?_⟩
  rw [List.getElem?_take] at e
  by_cases hj : j < n
  · rw [if_pos hj] at e
    obtain ⟨d, h1, h2⟩ := h.at_ j a e
    exact ⟨d, by rw [List.getElem?_take, if_pos hj]; exact h1, h2⟩
  · rw [if_neg hj] at e; cases e
theorem DsAt.drop (h : DsAt H as ds) (n : Nat) : DsAt H (as.drop n) (ds.drop n) := by
  refine ⟨by rw [List.length_drop, List.length_drop, h.len], fun j a e => ?_⟩
  rw [List.getElem?_drop] at e
  obtain ⟨d, h1, h2⟩ := h.at_ _ a e
  exact ⟨d, by rw [List.getElem?_drop]; exact h1, h2⟩
end
theorem DeedsOk.take {n : Int} {ds : List Deed} (h : DeedsOk n ds) (k : Nat) : DeedsOk n (ds.take k) := fun d hd => h d (List.mem_of_mem_take hd)
theorem DeedsOk.drop {n : Int} {ds : List Deed} (h : DeedsOk n ds) (k : Nat) : DeedsOk n (ds.drop k) := fun d hd => h d (List.mem_of_mem_drop hd)
/-! ### data, for == and != -/
def dI (ns : List Int) : PyData := .list (ns.map .int)
def dD (d : Deed) : PyData := .tuple [.int d.1, .int d.2.1, .int d.2.2]
def dDs (ds : List Deed) : PyData := .list (ds.map dD)
theorem dp_ints {K : PySem.W.Frag} {H : Hp} : ∀ ns : List Int, DpAll K H (ns.map V.int) (ns.map PyData.int)
  | [] => .nil
  | x :: r => .cons (.int x) (dp_ints r)
theorem dp_lst {K : PySem.W.Frag} {H : Hp} {a : Addr} {ns : List Int} (h : SqL K H a (ns.map V.int)) : Dp K H (.ref a) (dI ns) := .lst h (dp_ints ns)
theorem dp_dsAll {K : PySem.W.Frag} {H : Hp} : ∀ {as : List Addr} {ds : List Deed}, DsAt H as ds → DpAll K H (as.map V.ref) (ds.map dD)
  | [], [], _ => .nil
  | [], _ :: _, h => nomatch h.len
  | _ :: _, [], h => nomatch h.len
  | a :: r, d :: t, h => by
    obtain ⟨d', e1, e2⟩ := h.at_ 0 a rfl
    have e : d = d' := Option.some.inj e1
    subst e
    exact .cons (.tup (.inl (.inl e2)) (.cons (.int _) (.cons (.int _) (.cons (.int _) .nil)))) (dp_dsAll ⟨Nat.succ.inj h.len, fun j b q => h.at_ (j + 1) b q⟩)
theorem dp_ds {K : PySem.W.Frag} {H : Hp} {p : Addr} {as : List Addr} {ds : List Deed} (h : SqL K H p (as.map V.ref)) (hd : DsAt H as ds) : Dp K H (.ref p) (dDs ds) := .lst h (dp_dsAll hd)
theorem lay_ints : ∀ ns : List Int, PyData.canLayAll0 (ns.map PyData.int) = true
  | [] => by simp only [List.map_nil, PyData.canLayAll0]
  | x :: r => by simp only [List.map_cons, PyData.canLayAll0, PyData.canLay0, lay_ints r, Bool.and_self]
theorem dep_ints : ∀ ns : List Int, PyData.depthAll (ns.map PyData.int) = 0
  | [] => by simp only [List.map_nil, PyData.depthAll]
  | x :: r => by simp only [List.map_cons, PyData.depthAll, PyData.depth, dep_ints r, Nat.max_self]
theorem lay_dI (ns : List Int) : (dI ns).canLay0 = true := by unfold dI; simp only [PyData.canLay0]; exact lay_ints ns
theorem dep_dI (ns : List Int) : (dI ns).depth = 1 := by unfold dI; simp only [PyData.depth, dep_ints]
theorem sh_dI (ns : List Int) : SeqAt.shaped (dI ns) = true := by
  unfold SeqAt.shaped
  rw [lay_dI, dep_dI]; rfl
theorem lay_dDs (ds : List Deed) : (dDs ds).canLay0 = true := by
  unfold dDs
  simp only [PyData.canLay0]
  induction ds with
  | nil => simp only [List.map_nil, PyData.canLayAll0]
  | cons d r ih => simp only [List.map_cons, PyData.canLayAll0, dD, PyData.canLay0, ih, Bool.and_self]
theorem dep_dDs (ds : List Deed) : (dDs ds).depth ≤ 2 := by
  unfold dDs
  simp only [PyData.depth]
  refine Nat.succ_le_succ ?_
  induction ds with
  | nil => simp only [List.map_nil, PyData.depthAll]; omega
  | cons d r ih =>
    simp only [List.map_cons, PyData.depthAll]
    refine Nat.max_le.mpr ⟨?_, ih⟩
    simp only [dD, PyData.depth, PyData.depthAll, Nat.max_self]
    omega
theorem sh_dDs (ds : List Deed) : SeqAt.shaped (dDs ds) = true := by
  unfold SeqAt.shaped
  rw [lay_dDs, decide_eq_true (Nat.le_trans (dep_dDs ds) (by decide))]; rfl
theorem eqvAll_ints : ∀ ns ms : List Int, PyData.eqvAll (ns.map .int) (ms.map .int) = decide (ns = ms)
  | [], [] => by simp only [List.map_nil, PyData.eqvAll, decide_true]
  | [], _ :: _ => by simp [PyData.eqvAll]
  | _ :: _, [] => by simp [PyData.eqvAll]
  | x :: r, y :: t => by
    simp only [List.map_cons, PyData.eqvAll, PyData.eqv]
    rw [eqvAll_ints r t, Bool.beq_eq_decide_eq, ← Bool.decide_and]
    exact decide_eq_decide.mpr (by rw [List.cons.injEq])
theorem eqv_dI (ns ms : List Int) : PyData.eqv (dI ns) (dI ms) = decide (ns = ms) := by
  unfold dI
  simp only [PyData.eqv]
  exact eqvAll_ints ns ms
/-! ### kinds -/
/-- whether a value is a whole number, as is_number says -/
inductive NumB (K : PySem.W.Frag) (H : Hp) : V → Bool → Prop
  | int (i : Int) : NumB K H (.int i) true
  | bl (b : Bool) : NumB K H (.bl b) false
  | non : NumB K H .non false
  | str (x : Str) : NumB K H (.str x) false
  | lst {a : Addr} {xs : List V} (h : SqL K H a xs) : NumB K H (.ref a) false
  | tup {a : Addr} {xs : List V} (h : SqT K H a xs) : NumB K H (.ref a) false
theorem ty_lst {K : PySem.W.Frag} {H : Hp} {a : Addr} {xs : List V} (h : SqL K H a xs) : TyX K H (.ref a) (.type "list") := by
  rcases h with (h | ⟨o, h⟩) | ⟨o, its, n, hk, hc, _⟩
  · exact .base (.lst h)
  · exact .base (.frz h)
  · exact .kList hk hc
theorem ty_tup {K : PySem.W.Frag} {H : Hp} {a : Addr} {xs : List V} (h : SqT K H a xs) : TyX K H (.ref a) (.type "tuple") := by
  rcases h with (h | ⟨o, h⟩) | ⟨o, its, n, hk, hc, _⟩
  · exact .base (.tup h)
  · exact .fTuple h
  · exact .kTuple hk hc
/-- the module's names that are still the built-in ones -/
structure Blt (mg : Str → Option Value) : Prop where
  isi : mg "isinstance" = none
  int : mg "int" = none
  bool : mg "bool" = none
  list : mg "list" = none
  tuple : mg "tuple" = none
  len : mg "len" = none
  enumerate : mg "enumerate" = none
  sum : mg "sum" = none
  range : mg "range" = none
  all : mg "all" = none
/-! ### defs and calls in short -/
/-- the def x of the text stands where its name says -/
def Def (K : PySem.W.Frag) (mg : Str → Option Value) (x : Str) (st : Stmt) (ps : List Str) : Prop := ∃ f fd, Fun K x x st f fd ∧ mg x = some (.ref f) ∧ Binds K fd ps []
/-- x keeps the promise sp, and nothing is raised -/
def Callee (P : Program) (w : World) (K : PySem.W.Frag) (mg : Str → Option Value) (base : Heap) (k : Nat) (x : Str) (ps : List Str) (sp : Sp) : Prop :=
  ∃ f fd, mg x = some (.ref f) ∧ PySem.W.keepIn K (.ref f) = true ∧ Binds K fd ps [] ∧ (∃ oc od osl, K.lookup f = some ⟨oc, od, .func fd, osl⟩) ∧ FnOk P w K mg base CX0 k f fd ps sp
section
variable {P : Program} {w : World} {K : PySem.W.Frag} {mg : Str → Option Value} {base : Heap}
theorem Def.ok {x : Str} {st : Stmt} {N ps : List Str} {k : Nat} {sp : Sp} (D : Def K mg x st ps) (S : FnScope N ps (defScope st)) (len : ∀ vs H Q E, sp vs H Q E → vs.length = ps.length)
    (hbody : ∀ (f : Addr) (cdv : Value) (A : Around) (outer : List Env) (s : Shared) (H : Hp) (vs : List V) (Q : VK) (E : XK), Room k (A.deeper (envOfC x (defScope st) s.heap.objs.size f cdv)) → sp vs H Q E →
      ∃ t, PSs (cxOf CX0 P w K mg base N x (defScope st) f cdv A outer s H E).nox (defBody st) t ∧ t { nx := fun _ H' => Q .non H', rt := Q } (start N vs) H) : Callee P w K mg base (k + 1) x ps sp := by
  obtain ⟨f, fd, F, g, b⟩ := D
  have lk : ∃ oc od osl, K.lookup f = some ⟨oc, od, .func fd, osl⟩ := by
    obtain ⟨oc, od, kV, doc, pm, an, cdv, ct, osl, rfl, lk, _⟩ := F.ex
    exact ⟨oc, od, osl, lk⟩
  exact ⟨f, fd, g, F.kp, b, lk, F.ok S len fun cdv A outer s H vs Q E hr h => hbody f cdv A outer s H vs Q E hr h⟩
theorem Callee.imp {x : Str} {ps : List Str} {k : Nat} {sp sp' : Sp} (C : Callee P w K mg base k x ps sp) (h : ∀ vs H Q E, sp' vs H Q E → sp vs H Q E) : Callee P w K mg base k x ps sp' := by
  obtain ⟨f, fd, h1, h2, h3, lk, h4⟩ := C
  exact ⟨f, fd, h1, h2, h3, lk, h4.imp h⟩
end
theorem pe_c {X : Cx} {k : Nat} {x : Str} {ps : List Str} {sp : Sp} {p pos : Pos} {e : Expr} {es : List Expr} {t : TA} (C : Callee X.prog X.w X.K X.mg X.base k x ps sp) (hr : Room k X.A) (hg : Gl X x) (ha : PA X (e :: es) t)
    (hdb : (x == ("__debug__" : Str)) = false := by decide) (he : starEach (e :: es) X.env = (false, eval e X.env) :: starEach es X.env := by rfl) (hpl : (backTo pos (starEach es X.env)).any (·.1) = false := by rfl) :
    PE X (.Call (.Name x p) (e :: es) [] pos) (tCall sp [] E0 t) := by
  obtain ⟨f, fd, h1, h2, h3, _, h4⟩ := C
  exact pe_call h4 hr hg h1 h2 h3 .nil pass0 ha hdb he hpl
/-- from the facts that the top leaves -/
theorem def_mk {K : PySem.W.Frag} {h : Heap} {mg : Str → Option Value} {x : Str} {st : Stmt} {ps : List Str} {f : Addr} {oc : Value} {od an : Option Addr} {osl : Array (Option Value)} {kV doc pm cdv ct : Value} (X : K.In h) (G : h.Ns mainGlobals mg)
    (a : PySem.W.nsIn K mainGlobals x = some (some (.ref f))) (l : K.lookup f = some ⟨oc, od, .func (PySem.W.fnOf x x (defArgs st) (defBody st) (defScope st) .none kV doc pm an cdv ct), osl⟩)
    (c : PySem.W.codeIn K cdv x = true) (k : PySem.W.keepIn K (.ref f) = true)
    (hb : ∀ (kV doc pm : Value) (an : Option Addr) (cdv ct : Value) (us : List Value), us.length = ps.length → bindArgs (PySem.W.fnOf x x (defArgs st) (defBody st) (defScope st) .none kV doc pm an cdv ct) ⟨us, []⟩ = pure (ps.zip us)) : Def K mg x st ps :=
  ⟨f, _, fun_mk l c k, PySem.W.mg_of X G a, (fun_mk l c k).binds hb⟩
/-- the promise of a def that stands at f -/
theorem Callee.at {P : Program} {w : World} {K : PySem.W.Frag} {mg : Str → Option Value} {base : Heap} {k : Nat} {x : Str} {ps : List Str} {sp : Sp} {f : Addr} {fd : FuncData} {oc : Value} {od : Option Addr} {osl : Array (Option Value)}
    (C : Callee P w K mg base k x ps sp) (g : mg x = some (.ref f)) (l : K.lookup f = some ⟨oc, od, .func fd, osl⟩) : FnOk P w K mg base CX0 k f fd ps sp := by
  obtain ⟨f', fd', h1, _, _, ⟨oc', od', osl', lk⟩, h4⟩ := C
  rw [g] at h1
  cases h1
  rw [l] at lk
  cases lk
  exact h4
theorem isi_ty {K : PySem.W.Frag} {H : Hp} {Q : VK} {x : V} {T C : String} {r : Bool} (ty : TyX K H x (.type T)) (h : kitB T C = some r) (q : Q (.bl r) H) : rIsi K [x, .ty C] H Q := ⟨x, .ty C, _, _, r, rfl, .ty C, ty, kit_ty h, q⟩
end DR
namespace DR
open PySem PySem.Spec PyProof.Rows L2
structure Blt2 (mg : Str → Option Value) : Prop where
  zip : mg "zip" = none
  min : mg "min" = none
  abs : mg "abs" = none
structure Blt3 (mg : Str → Option Value) : Prop where
  sorted : mg "sorted" = none
/-! ### the scope of a generator expression, by a look -/
def gscB (sc scope : Scope) (XN N : List Str) (tn : Nat) (js : List Nat) : Bool :=
  decide (scope.kind = .function) && (!scope.isCoroutine && (scope.names.all (fun y => decide (y.2 ≠ .cell)) && (decide (scope.names.lookup (".0" : Str) = some NameKind.local) && (scope.names.all (fun y => decide (scope.names.lookup y.1 = some y.2)) &&
    (scope.names.all (fun y => decide (y.2 ≠ .free) || decide (sc.names.lookup y.1 = some .cell)) && (decide (N.length = tn + js.length) && (List.range js.length).all fun i => match js[i]?, N[tn + i]? with
      | some j, some x => decide (XN[j]? = some x) && decide (scope.names.lookup x = some .free)
      | _, _ => false))))))
theorem gsc_by {X : Cx} {sc scope : Scope} {XN N : List Str} {tn : Nat} {js : List Nat} (hs : X.env.scope = sc) (hN : X.N = XN) (h : gscB sc scope XN N tn js = true) : GSc X scope N tn js := by
  subst hN
  unfold gscB at h
  simp only [Bool.and_eq_true, decide_eq_true_eq, List.all_eq_true, Bool.or_eq_true, Bool.not_eq_true', List.mem_range] at h
  obtain ⟨h1, h2, h3, h4, h5, h6, h7, h8⟩ := h
  refine ⟨h1, h2, h3, h4, h5, fun y hy e => ?_, h7, fun i j hj => ?_⟩
  · rcases h6 y hy with z | z
    · exact absurd e z
    · exact .inl (by unfold Env.kindOf; rw [hs]; exact z)
  · have hi := (List.getElem?_eq_some_iff.mp hj).1
    have q := h8 i hi
    rw [hj] at q
    cases e : N[tn + i]? with
    | none => rw [e] at q; cases q
    | some x =>
      rw [e] at q
      simp only [Bool.and_eq_true, decide_eq_true_eq] at q
      exact ⟨x, rfl, q.1, q.2⟩
/-! ### a def with its code object told -/
def DefT (K : PySem.W.Frag) (mg : Str → Option Value) (x : Str) (st : Stmt) (ps : List Str) (c : Addr) : Prop :=
  ∃ (f : Addr) (oc : Value) (od : Option Addr) (kV doc pm : Value) (an : Option Addr) (ct : Value) (osl : Array (Option Value)), K.lookup f = some ⟨oc, od, .func (PySem.W.fnOf x x (defArgs st) (defBody st) (defScope st) .none kV doc pm an (.ref c) ct), osl⟩ ∧
    PySem.W.codeIn K (.ref c) x = true ∧ PySem.W.keepIn K (.ref f) = true ∧ mg x = some (.ref f) ∧ Binds K (PySem.W.fnOf x x (defArgs st) (defBody st) (defScope st) .none kV doc pm an (.ref c) ct) ps []
section
variable {P : Program} {w : World} {K : PySem.W.Frag} {mg : Str → Option Value} {base : Heap}
theorem DefT.ok {x : Str} {st : Stmt} {N ps : List Str} {k : Nat} {sp : Sp} {c : Addr} (D : DefT K mg x st ps c) (S : FnScope N ps (defScope st)) (len : ∀ vs H Q E, sp vs H Q E → vs.length = ps.length)
    (hbody : ∀ (f : Addr) (A : Around) (outer : List Env) (s : Shared) (H : Hp) (vs : List V) (Q : VK) (E : XK), Room k (A.deeper (envOfC x (defScope st) s.heap.objs.size f (.ref c))) → sp vs H Q E →
      ∃ t, PSs (cxOf CX0 P w K mg base N x (defScope st) f (.ref c) A outer s H E).nox (defBody st) t ∧ t { nx := fun _ H' => Q .non H', rt := Q } (start N vs) H) : Callee P w K mg base (k + 1) x ps sp := by
  obtain ⟨f, oc, od, kV, doc, pm, an, ct, osl, lk, hcd, hk, g, b⟩ := D
  refine ⟨f, _, g, hk, b, ⟨oc, od, osl, lk⟩, fn_of lk hcd S len fun A outer s H vs Q E hr hsp => ?_⟩
  obtain ⟨t, h, q⟩ := hbody f A outer s H vs Q E hr hsp
  exact ⟨t, h.nox, q⟩
theorem defT_mk {h : Heap} {x : Str} {st : Stmt} {ps : List Str} {f c : Addr} {oc : Value} {od an : Option Addr} {osl : Array (Option Value)} {kV doc pm ct : Value} (X : K.In h) (G : h.Ns mainGlobals mg)
    (a : PySem.W.nsIn K mainGlobals x = some (some (.ref f))) (l : K.lookup f = some ⟨oc, od, .func (PySem.W.fnOf x x (defArgs st) (defBody st) (defScope st) .none kV doc pm an (.ref c) ct), osl⟩)
    (hc : PySem.W.codeIn K (.ref c) x = true) (k : PySem.W.keepIn K (.ref f) = true)
    (hb : ∀ (kV doc pm : Value) (an : Option Addr) (cdv ct : Value) (us : List Value), us.length = ps.length → bindArgs (PySem.W.fnOf x x (defArgs st) (defBody st) (defScope st) .none kV doc pm an cdv ct) ⟨us, []⟩ = pure (ps.zip us)) : DefT K mg x st ps c :=
  ⟨f, oc, od, kV, doc, pm, an, ct, osl, l, hc, k, PySem.W.mg_of X G a, .all (hb kV doc pm an _ ct)⟩
end
theorem NumB.same {K : PySem.W.Frag} {H H' : Hp} {x : V} {b : Bool} (h : NumB K H x b) (s : Same H H') : NumB K H' x b := by
  cases h with
  | int i => exact .int i
  | bl b => exact .bl b
  | non => exact .non
  | str z => exact .str z
  | lst h => exact .lst (s.seq h)
  | tup h => exact .tup (stup s h)
/-- the list of what was so far, in a generator expression over few slots -/
theorem all_take {bs : List Bool} {i : Nat} {b : Bool} (h : bs[i]? = some b) : (bs.take (i + 1)).all _root_.id = ((bs.take i).all _root_.id && b) := by
  rw [List.take_add_one, h]
  simp
end DR
namespace DR
open PySem PySem.Spec PyProof.Rows L2
/-- the end of a law's row: of each def that is asked for, where its code object's table lies, empty -/
theorem walk_ofD {l : PySem.W.OpenLaw} {n k : Nat} {q : Program} {loose : List Str} {XP : (Str → Option Value) → Heap → Prop} {YP : World → Heap → Prop} {d : DefRec} {K : Params → PySem.W.Frag} {CX : World → CXT} {x : Str}
    (hn : l.most = some n) (hn2 : n ≤ sizeLine) (hdf : d.params.defaults = []) (hr : Room k callerA) (hY : ∀ (w : World) (h : Heap), YP w h → (K w.params).In h)
    (F : ∀ (w : World) (mg : Str → Option Value) (fa : Addr) (h : Heap), YP w h → (K w.params).In h → h.Ns mainGlobals mg → mg d.name = some (.ref fa) →
      (∀ (y : Str) (c P : Addr), ((recsOf q).find? fun e => e.name == y).isSome = true → PySem.W.tabIn (K w.params) y = some (c, P) → PySem.W.CodeHd h c P ∧ h.get? P = some { cls := .none, data := .fields #[] }) → LamX.LawAtS l w (K w.params) (CX w) k n x mg fa h)
    (hCX : ∀ (w : World) (H : Hp) (s : Shared) (e : Value) (s' : Shared), CX w [] H s (fun _ _ _ => False) e s' → False) :
    PySem.W.WalkO q loose XP YP l.row.toRowW d [] (fun f vs => PySem.call f vs) := by
  refine Att.attach_callB hn hdf fun w s₀ s₁ mg mb fa o pm cd doc a vs ns G Y ho hd hcd hmg hobj hints hlen hbits hg => ?_
  have KX := hY w _ Y
  obtain ⟨fd, cs, sp, hT, nT, C, hb, hsp, hF⟩ := F w mg fa _ Y KX G.T.g hmg fun y c P hr ht => by
    obtain ⟨d', hd'⟩ := Option.isSome_iff_exists.mp hr
    exact PySem.W.tab_of G.T KX hd' ht
  exact LamX.law_callTs KX G.T.g G.T.b G.T.builtins G.T.nolimit hg hT nT C G.T.bmain hobj hints (Nat.le_trans hlen hn2) hr hF hb (fun H hH hS => hsp H a ns hlen hbits hH hS) fun H e s' => hCX w H s₁ e s'
theorem tabG_nil {H : Hp} {P : Addr} (h : H P = some (.tbl #[])) : TabG H P := ⟨#[], h, True.intro⟩
theorem tabs_of {H : Hp} {cs : List (Addr × Addr)} (h : ∀ p ∈ cs, H p.2 = some (.tbl #[])) : Tabs (cs.map (·.2)) H := fun P hP => by
  obtain ⟨p, hp, e⟩ := List.mem_map.mp hP
  rw [← e]
  exact tabG_nil (h p hp)
theorem tb_of {base : Heap} {mg : Str → Option Value} {c P : Addr} (t : LamX.TabB base mg c P) : GxR.TabB base mg c P := ⟨t.code, t.bm, t.gP⟩
end DR
namespace DR
open PySem PySem.Spec PyProof.Rows L2
theorem tabIn_of {K : PySem.W.Frag} {x : Str} {f c P : Addr} {oc e : Value} {od dd : Option Addr} {fd : FuncData} {osl sl : Array (Option Value)} {vs : Array Value} (a : PySem.W.nsIn K mainGlobals x = some (some (.ref f))) (l : K.lookup f = some ⟨oc, od, .func fd, osl⟩)
    (hc : fd.code = .ref c) (lc : K.lookup c = some ⟨e, dd, .fields vs, sl⟩) (v : vs[11]? = some (.ref P)) : PySem.W.tabIn K x = some (c, P) := by
  unfold PySem.W.tabIn
  rw [a]
  dsimp only
  rw [l]
  dsimp only
  rw [hc]
  dsimp only
  rw [lc]
  dsimp only
  rw [v]
end DR
namespace DR
open PySem PySem.Spec PyProof.Rows L2
/-! ### the text by places -/
def topS (i : Nat) : Stmt := PySem.Challenge.pw_dialrow_k06_refused.main.body.getD i (.Pass ⟨0, 0, 0, 0⟩)
abbrev sGaps : Stmt := topS 1
abbrev sLesser : Stmt := topS 2
abbrev cDialError : Stmt := topS 4
abbrev cBadSize : Stmt := topS 5
abbrev cBadRow : Stmt := topS 6
abbrev cBadDeeds : Stmt := topS 7
abbrev cUnlike : Stmt := topS 8
abbrev sNum : Stmt := topS 10
abbrev sSize : Stmt := topS 11
abbrev sRow : Stmt := topS 12
abbrev sDeed : Stmt := topS 13
abbrev sAre : Stmt := topS 14
abbrev sDeeds : Stmt := topS 15
abbrev sSteps : Stmt := topS 16
abbrev sTurned : Stmt := topS 17
abbrev cBest : Stmt := topS 19
abbrev cBest_init : Stmt := inClass (topS 19) 0
abbrev cBest_shows : Stmt := inClass (topS 19) 1
abbrev sRows : Stmt := topS 21
abbrev sLeast : Stmt := topS 22
abbrev sOver : Stmt := topS 23
abbrev sBest : Stmt := topS 24
abbrev sApart : Stmt := topS 25
abbrev sLevel : Stmt := topS 26
abbrev lAsk : Stmt := topS 28
abbrev lRowsAsked : Stmt := topS 29
abbrev lDeedsAsked : Stmt := topS 30
abbrev lTold : Stmt := topS 31
abbrev sLaw : Stmt := topS 32
end DR
namespace DR
open PySem PySem.Spec PyProof.Rows L2
def spNum (K : PySem.W.Frag) : Sp := fun vs H Q _ => ∃ x b, vs = [x] ∧ NumB K H x b ∧ Q (.bl b) H
def spSize : Sp := fun vs H Q _ => ∃ m : Int, vs = [.int m] ∧ 2 ≤ m ∧ Q .non H
def spRow (K : PySem.W.Frag) : Sp := fun vs H Q _ => ∃ (m : Int) (a : Addr) (ns : List Int), vs = [.int m, .ref a] ∧ SqL K H a (ns.map V.int) ∧ RowOk m ns ∧ Q .non H
section
variable {P : Program} {w : World} {K : PySem.W.Frag} {mg : Str → Option Value} {base : Heap}
theorem scNum : FnScope ["thing"] ["thing"] (defScope sNum) := ⟨rfl, rfl, rfl, by decide +kernel, rfl, by decide +kernel, by decide +kernel⟩
theorem ok_num (D : Def K mg "is_number" sNum ["thing"]) (B : Blt mg) : Callee P w K mg base 1 "is_number" ["thing"] (spNum K) := by
  refine D.ok scNum (fun vs H Q E h => ?_) (fun f cdv A outer s H vs Q E hr h => ?_)
  · obtain ⟨x, b, rfl, _⟩ := h
    rfl
  · obtain ⟨x, b, rfl, hn, q⟩ := h
    refine ⟨_, pss_one (ps_ret (pe_and (pe_callB call_isi (by rfl) B.isi boot_isinstance (pa_cons (pv 0) (pa_cons (pe_bltn (v := .ty "int") (by rfl) B.int PyProof.Rows.boot_int rfl) pa_nil)))
      (pe_one (pe_not (pe_callB call_isi (by rfl) B.isi boot_isinstance (pa_cons (pv 0) (pa_cons (pe_bltn (v := .ty "bool") (by rfl) B.bool PyProof.Rows.boot_bool rfl) pa_nil))))))), ?_⟩
    cases hn with
    | int i => exact ⟨_, rfl, ⟨_, _, _, _, true, rfl, .ty _, (.base (.int i)), kit_ty (by decide +kernel), ⟨true, rfl, iteT ⟨_, rfl, ⟨_, _, _, _, false, rfl, .ty _, (.base (.int i)), kit_ty (by decide +kernel), ⟨false, rfl, q⟩⟩⟩⟩⟩⟩
    | bl b => exact ⟨_, rfl, ⟨_, _, _, _, true, rfl, .ty _, (.base (.bl b)), kit_ty (by decide +kernel), ⟨true, rfl, iteT ⟨_, rfl, ⟨_, _, _, _, true, rfl, .ty _, (.base (.bl b)), kit_ty (by decide +kernel), ⟨true, rfl, q⟩⟩⟩⟩⟩⟩
    | non => exact ⟨_, rfl, ⟨_, _, _, _, false, rfl, .ty _, (.base .non), kit_ty (by decide +kernel), ⟨false, rfl, iteF q⟩⟩⟩
    | str z => exact ⟨_, rfl, ⟨_, _, _, _, false, rfl, .ty _, (.base (.str z)), kit_ty (by decide +kernel), ⟨false, rfl, iteF q⟩⟩⟩
    | lst h => exact ⟨_, rfl, ⟨_, _, _, _, false, rfl, .ty _, (ty_lst h), kit_ty (by decide +kernel), ⟨false, rfl, iteF q⟩⟩⟩
    | tup h => exact ⟨_, rfl, ⟨_, _, _, _, false, rfl, .ty _, (ty_tup h), kit_ty (by decide +kernel), ⟨false, rfl, iteF q⟩⟩⟩
theorem scSize : FnScope ["size"] ["size"] (defScope sSize) := ⟨rfl, rfl, rfl, by decide +kernel, rfl, by decide +kernel, by decide +kernel⟩
theorem ok_size (D : Def K mg "check_size" sSize ["size"]) (GN : Callee P w K mg base 1 "is_number" ["thing"] (spNum K)) : Callee P w K mg base 2 "check_size" ["size"] spSize := by
  refine D.ok scSize (fun vs H Q E h => ?_) (fun f cdv A outer s H vs Q E hr h => ?_)
  · obtain ⟨m, rfl, _⟩ := h
    rfl
  · obtain ⟨m, rfl, hm, q⟩ := h
    refine ⟨_, pss_one (ps_if (PW.pt (pw_or (pt_not (pt_val (pe_c GN hr (by rfl) (pa_cons (pv 0) pa_nil)))) (pw_or1 (pt_cmpR op_lt (pv 0) pe_int (nomark _))))) (pss_one ps_never) pss_nil), ?_⟩
    refine ⟨_, rfl, _, _, rfl, .int m, true, rfl, iteF ⟨_, rfl, m, 2, rfl, rfl, _, rfl, ?_⟩⟩
    rw [decide_eq_false (by omega)]
    exact iteF q
theorem scRow : FnScope ["size", "row", "figure"] ["size", "row"] (defScope sRow) := ⟨rfl, rfl, rfl, by decide +kernel, rfl, by decide +kernel, by decide +kernel⟩
theorem ok_row (D : Def K mg "check_row" sRow ["size", "row"]) (B : Blt mg) (GN : Callee P w K mg base 1 "is_number" ["thing"] (spNum K)) : Callee P w K mg base 2 "check_row" ["size", "row"] (spRow K) := by
  refine D.ok scRow (fun vs H Q E h => ?_) (fun f cdv A outer s H vs Q E hr h => ?_)
  · obtain ⟨m, a, ns, rfl, _⟩ := h
    rfl
  · obtain ⟨m, a, ns, rfl, hS, hR, q⟩ := h
    refine ⟨_, pss_cons (ps_if (pt_not (pt_val (pe_callB call_isi (by rfl) B.isi boot_isinstance (pa_cons (pv 1) (pa_cons (pe_bltn (v := .ty "list") (by rfl) B.list PyProof.Rows.boot_list rfl) pa_nil))))) (pss_one ps_never) pss_nil)
      (pss_one (ps_for PassesOwn.never rfl (pi_list (pv 1)) (pg_name (i := 2) scRow.nd rfl (.inl rfl))
        (pss_one (ps_if (PW.pt (pw_or (pt_not (pt_val (pe_c GN hr (by rfl) (pa_cons (pv 2) pa_nil)))) (pw_or (pt_cmpR op_lt (pv 2) pe_int (nomark _)) (pw_or1 (pt_cmpR op_ge (pv 2) (pv 0) (nomark _)))))) (pss_one ps_never) pss_nil)))), ?_⟩
    refine ⟨_, rfl, ⟨_, _, _, _, true, rfl, .ty _, (ty_lst hS), kit_ty (by decide +kernel), ⟨true, rfl, iteF ?_⟩⟩⟩
    refine ⟨_, rfl, a, rfl, ⟨_, hS⟩, for_list (K := K) (a := a) (xs := ns.map V.int) (fun i σ H2 => (∃ v, σ = [some (.int m), some (.ref a), v]) ∧ H2 = H) ⟨⟨none, rfl⟩, rfl⟩ (fun i σ H2 _ h => by rw [h.2]; exact hS) ?_ ?_⟩
    · rintro i y σ H2 hi ⟨⟨v, rfl⟩, rfl⟩
      obtain ⟨z, hz, rfl⟩ := map_at hi
      obtain ⟨h1, h2⟩ := hR z (List.mem_of_getElem? hz)
      refine ⟨_, rfl, _, _, rfl, .int z, true, rfl, iteF ⟨_, rfl, z, 0, rfl, rfl, _, rfl, ?_⟩⟩
      rw [decide_eq_false (by omega)]
      refine iteF ⟨_, rfl, _, rfl, z, m, rfl, rfl, _, rfl, ?_⟩
      rw [decide_eq_false (by omega)]
      exact iteF ⟨⟨_, rfl⟩, rfl⟩
    · rintro σ H2 ⟨⟨v, rfl⟩, rfl⟩
      exact q
end
end DR
namespace DR
open PySem PySem.Spec PyProof.Rows L2
def deedB (n : Int) (d : Deed) : Bool := decide (0 ≤ d.1) && (decide (d.1 < d.2.1) && (decide (d.2.1 ≤ n) && decide (d.2.2 ≠ 0)))
theorem deedB_ok {n : Int} {d : Deed} (h : DeedOk n d) : deedB n d = true := by
  obtain ⟨h1, h2, h3, h4⟩ := h
  unfold deedB
  rw [decide_eq_true h1, decide_eq_true h2, decide_eq_true h3, decide_eq_true h4]; rfl
section
variable {P : Program} {w : World} {K : PySem.W.Frag} {mg : Str → Option Value} {base : Heap}
theorem scDeed : FnScope ["dials", "thing", "first", "end", "steps"] ["dials", "thing"] (defScope sDeed) := ⟨rfl, rfl, rfl, by decide +kernel, rfl, by decide +kernel, by decide +kernel⟩
end
end DR
namespace DR
open PySem PySem.Spec PyProof.Rows L2
/-- no tuple, of the sorts that are asked with -/
inductive NotT (K : PySem.W.Frag) (H : Hp) : V → Prop
  | int (i : Int) : NotT K H (.int i)
  | bl (b : Bool) : NotT K H (.bl b)
  | non : NotT K H .non
  | str (x : Str) : NotT K H (.str x)
  | lst {a : Addr} {xs : List V} (h : SqL K H a xs) : NotT K H (.ref a)
/-- whether a thing is a deed of n dials -/
inductive DeedB (K : PySem.W.Frag) (H : Hp) (n : Int) : V → Bool → Prop
  | no {y : V} (h : NotT K H y) : DeedB K H n y false
  | len {a : Addr} {xs : List V} (h : SqT K H a xs) (hl : xs.length ≠ 3) : DeedB K H n (.ref a) false
  | sort {a : Addr} {x y z : V} {bx by' bz : Bool} (h : SqT K H a [x, y, z]) (hx : NumB K H x bx) (hy : NumB K H y by') (hz : NumB K H z bz) (hb : (bx && (by' && bz)) = false) : DeedB K H n (.ref a) false
  | deed {a : Addr} {x y z : Int} (h : SqT K H a [.int x, .int y, .int z]) : DeedB K H n (.ref a) (deedB n (x, y, z))
def spDeedB (K : PySem.W.Frag) : Sp := fun vs H Q _ => ∃ (n : Int) (v : V) (b : Bool), vs = [.int n, v] ∧ DeedB K H n v b ∧ Q (.bl b) H
section
variable {P : Program} {w : World} {K : PySem.W.Frag} {mg : Str → Option Value} {base : Heap} {C : Addr}
theorem ok_deedB (D : Def K mg "is_deed" sDeed ["dials", "thing"]) (B : Blt mg) (GN : Callee P w K mg base 1 "is_number" ["thing"] (spNum K)) : Callee P w K mg base 2 "is_deed" ["dials", "thing"] (spDeedB K) := by
  refine D.ok scDeed (fun vs H Q E h => ?_) (fun f cdv A outer s H vs Q E hr h => ?_)
  · obtain ⟨n, v, b, rfl, _⟩ := h
    rfl
  · obtain ⟨n, v, b, rfl, hB, q⟩ := h
    refine ⟨_, pss_cons (ps_if (PW.pt (pw_or (pt_not (pt_val (pe_callB call_isi (by rfl) B.isi boot_isinstance (pa_cons (pv 1) (pa_cons (pe_bltn (v := .ty "tuple") (by rfl) B.tuple PyProof.Rows.boot_tuple rfl) pa_nil)))))
        (pw_or1 (pt_cmpR op_ne (pe_callB call_len_seq (by rfl) B.len PySem.boot_len (pa_cons (pv 1) pa_nil)) pe_int (nomark _))))) (pss_one (ps_ret pe_bl)) pss_nil)
      (pss_cons (ps_asg (pv 1) (pg_tup (by rfl) (pgs_cons (pg_name (i := 2) scDeed.nd rfl (.inl rfl)) (pgs_cons (pg_name (i := 3) scDeed.nd rfl (.inl rfl)) (pgs_cons (pg_name (i := 4) scDeed.nd rfl (.inl rfl)) pgs_nil)))))
      (pss_cons (ps_if (PW.pt (pw_or (pt_not (pt_val (pe_c GN hr (by rfl) (pa_cons (pv 2) pa_nil)))) (pw_or (pt_not (pt_val (pe_c GN hr (by rfl) (pa_cons (pv 3) pa_nil)))) (pw_or1 (pt_not (pt_val (pe_c GN hr (by rfl) (pa_cons (pv 4) pa_nil)))))))) (pss_one (ps_ret pe_bl)) pss_nil)
      (pss_one (ps_ret (pe_and (pe_chain3 op_le op_lt op_le pe_int (pv 2) (pv 3) (pv 0)) (pe_one (pe_cmpR op_ne (pv 4) pe_int (nomark _)))))))), ?_⟩
    cases hB with
    | no h =>
      cases h with
      | int i => exact ⟨_, rfl, ⟨_, _, _, _, false, rfl, .ty _, .base (.int i), kit_ty (by decide +kernel), ⟨false, rfl, iteT q⟩⟩⟩
      | bl b => exact ⟨_, rfl, ⟨_, _, _, _, false, rfl, .ty _, .base (.bl b), kit_ty (by decide +kernel), ⟨false, rfl, iteT q⟩⟩⟩
      | non => exact ⟨_, rfl, ⟨_, _, _, _, false, rfl, .ty _, .base .non, kit_ty (by decide +kernel), ⟨false, rfl, iteT q⟩⟩⟩
      | str z => exact ⟨_, rfl, ⟨_, _, _, _, false, rfl, .ty _, .base (.str z), kit_ty (by decide +kernel), ⟨false, rfl, iteT q⟩⟩⟩
      | lst h => exact ⟨_, rfl, ⟨_, _, _, _, false, rfl, .ty _, ty_lst h, kit_ty (by decide +kernel), ⟨false, rfl, iteT q⟩⟩⟩
    | len h hl =>
      refine ⟨_, rfl, ⟨_, _, _, _, true, rfl, .ty _, (ty_tup h), kit_ty (by decide +kernel), ⟨true, rfl, iteF ⟨_, rfl, _, _, rfl, .inr h, rfl, _, rfl, ?_⟩⟩⟩⟩
      rw [decide_eq_false (fun e => hl (by have := V.int.inj e; omega))]
      exact iteT q
    | sort h hx hy hz hb =>
      refine ⟨_, rfl, ⟨_, _, _, _, true, rfl, .ty _, (ty_tup h), kit_ty (by decide +kernel), ⟨true, rfl, iteF ⟨_, rfl, _, _, rfl, .inr h, rfl, _, rfl, iteF ?_⟩⟩⟩⟩
      refine ⟨_, rfl, _, _, rfl, h, rfl, _, _, rfl, _, _, rfl, _, _, rfl, rfl, ?_⟩
      rename_i x y z bx by' bz
      refine ⟨_, rfl, _, _, rfl, hx, bx, rfl, ?_⟩
      cases bx with
      | false => exact iteT q
      | true =>
        refine iteF ⟨_, rfl, _, _, rfl, hy, by', rfl, ?_⟩
        cases by' with
        | false => exact iteT q
        | true =>
          refine iteF ⟨_, rfl, _, _, rfl, hz, bz, rfl, ?_⟩
          cases bz with
          | false => exact iteT q
          | true => cases hb
    | deed hT =>
      rename_i a x y z
      refine ⟨_, rfl, ⟨_, _, _, _, true, rfl, .ty _, (ty_tup hT), kit_ty (by decide +kernel), ⟨true, rfl, iteF ⟨_, rfl, a, _, rfl, .inr hT, rfl, _, rfl, iteF ?_⟩⟩⟩⟩
      refine ⟨_, rfl, a, _, rfl, hT, rfl, _, _, rfl, _, _, rfl, _, _, rfl, rfl, ?_⟩
      refine ⟨_, rfl, _, _, rfl, .int x, true, rfl, iteF ⟨_, rfl, _, _, rfl, .int y, true, rfl, iteF ⟨_, rfl, _, _, rfl, .int z, true, rfl, iteF ?_⟩⟩⟩
      refine ⟨_, rfl, 0, x, rfl, rfl, _, rfl, ?_⟩
      have fin : ∀ b : Bool, b = deedB n (x, y, z) → Q (.bl b) H := fun b e => by rw [e]; exact q
      by_cases h1 : 0 ≤ x
      · rw [decide_eq_true h1]
        refine iteT ⟨_, rfl, x, y, rfl, rfl, _, rfl, ?_⟩
        by_cases h2 : x < y
        · rw [decide_eq_true h2]
          refine iteT ⟨_, rfl, y, n, rfl, rfl, _, rfl, ?_⟩
          by_cases h3 : y ≤ n
          · rw [decide_eq_true h3]
            refine iteT ⟨_, rfl, rfl, fin _ ?_⟩
            unfold deedB
            rw [decide_eq_true (show (0 : Int) ≤ (x, y, z).1 from h1), decide_eq_true (show (x, y, z).1 < (x, y, z).2.1 from h2), decide_eq_true (show (x, y, z).2.1 ≤ n from h3)]
            show (!decide (V.int z = V.int 0)) = decide (z ≠ 0)
            by_cases h4 : z = 0
            · subst h4; rfl
            · rw [decide_eq_false (fun e => h4 (V.int.inj e)), decide_eq_true h4]; rfl
          · rw [decide_eq_false h3]
            refine iteF (fin _ ?_)
            unfold deedB
            rw [decide_eq_false (show ¬ (x, y, z).2.1 ≤ n from h3)]
            simp
        · rw [decide_eq_false h2]
          refine iteF ⟨false, rfl, iteF (fin _ ?_)⟩
          unfold deedB
          rw [decide_eq_false (show ¬ (x, y, z).1 < (x, y, z).2.1 from h2)]
          simp
      · rw [decide_eq_false h1]
        refine iteF ⟨false, rfl, iteF (fin _ ?_)⟩
        unfold deedB
        rw [decide_eq_false (show ¬ (0 : Int) ≤ (x, y, z).1 from h1)]
        simp

end
end DR
namespace DR
open PySem PySem.Spec PyProof.Rows L2
theorem NotT.same {K : PySem.W.Frag} {H H' : Hp} {x : V} (h : NotT K H x) (s : Same H H') : NotT K H' x := by
  cases h with
  | int i => exact .int i
  | bl b => exact .bl b
  | non => exact .non
  | str z => exact .str z
  | lst h => exact .lst (s.seq h)
theorem DeedB.same {K : PySem.W.Frag} {H H' : Hp} {n : Int} {x : V} {b : Bool} (h : DeedB K H n x b) (s : Same H H') : DeedB K H' n x b := by
  cases h with
  | no h => exact .no (h.same s)
  | len h hl => exact .len (stup s h) hl
  | sort h hx hy hz hb => exact .sort (stup s h) (hx.same s) (hy.same s) (hz.same s) hb
  | deed h => exact .deed (stup s h)
/-- which of the things are deeds -/
def Looked (K : PySem.W.Frag) (H : Hp) (n : Int) (xs : List V) (bs : List Bool) : Prop := bs.length = xs.length ∧ ∀ (i : Nat) (x : V), xs[i]? = some x → ∃ b, bs[i]? = some b ∧ DeedB K H n x b
theorem Looked.same {K : PySem.W.Frag} {H H' : Hp} {n : Int} {xs : List V} {bs : List Bool} (h : Looked K H n xs bs) (s : Same H H') : Looked K H' n xs bs :=
  ⟨h.1, fun i x e => let ⟨b, h1, h2⟩ := h.2 i x e; ⟨b, h1, h2.same s⟩⟩
theorem looked_of {K : PySem.W.Frag} {H : Hp} {n : Int} {as : List Addr} {ds : List Deed} (h : DsAt H as ds) : Looked K H n (as.map V.ref) (ds.map (deedB n)) := by
  refine ⟨by rw [List.length_map, List.length_map, h.len], fun i x e => ?_⟩
  obtain ⟨a, ha, rfl⟩ := ref_at e
  obtain ⟨⟨x, y, z⟩, hd, hT⟩ := h.at_ i a ha
  exact ⟨deedB n (x, y, z), by rw [List.getElem?_map, hd]; rfl, .deed (.inl (.inl hT))⟩
theorem deedB_iff {n : Int} {d : Deed} : deedB n d = decide (DeedOk n d) := by
  unfold deedB
  rw [← Bool.decide_and, ← Bool.decide_and, ← Bool.decide_and]
  exact decide_eq_decide.mpr Iff.rfl
theorem deeds_all {n : Int} (ds : List Deed) : (ds.map (deedB n)).all _root_.id = decide (DeedsOk n ds) := by
  induction ds with
  | nil => exact (decide_eq_true (show DeedsOk n [] from fun d hd => nomatch hd)).symm
  | cons d r ih =>
    rw [List.map_cons, List.all_cons, ih, deedB_iff]
    show (decide (DeedOk n d) && decide (DeedsOk n r)) = _
    rw [← Bool.decide_and]
    exact decide_eq_decide.mpr ⟨fun h x hx => (List.mem_cons.mp hx).elim (fun e => by rw [e]; exact h.1) (h.2 x), fun h => ⟨h d List.mem_cons_self, fun x hx => h x (List.mem_cons_of_mem _ hx)⟩⟩
def spAre (T : List Addr) (K : PySem.W.Frag) : Sp := fun vs H Q _ => ∃ (n : Int) (p : Addr) (xs : List V) (bs : List Bool), vs = [.int n, .ref p] ∧ SqL K H p xs ∧ Tabs T H ∧ Looked K H n xs bs ∧ ∀ H', Same H H' → Q (.bl (bs.all _root_.id)) H'
section
variable {P : Program} {w : World} {K : PySem.W.Frag} {mg : Str → Option Value} {base : Heap} {T : List Addr} {c PA : Addr}
theorem scAre : FnScope ["dials", "things"] ["dials", "things"] (defScope sAre) := ⟨rfl, rfl, rfl, by decide +kernel, rfl, by decide +kernel, by decide +kernel⟩
theorem ok_are (D : DefT K mg "are_deeds" sAre ["dials", "things"] c) (TB : GxR.TabB base mg c PA) (hT : PA ∈ T) (B : Blt mg) (GD : Callee P w K mg base 2 "is_deed" ["dials", "thing"] (spDeedB K)) : Callee P w K mg base 4 "are_deeds" ["dials", "things"] (spAre T K) := by
  refine D.ok scAre (fun vs H Q E h => ?_) (fun f A outer s H vs Q E hr h => ?_)
  · obtain ⟨n, p, xs, bs, rfl, _⟩ := h
    rfl
  · obtain ⟨n, p, xs, bs, rfl, hS, ht, hL, q⟩ := h
    have nd2 : (["thing", "dials"] : List Str).Nodup := by decide +kernel
    refine ⟨_, pss_one (ps_ret (pe_allG (k := 2) (tn := 1) (js := [0]) (N := ["thing", "dials"]) (g := gName 0) hr (by rfl) B.all TB rfl (gsc_by (sc := defScope sAre) (XN := ["dials", "things"]) rfl rfl (by decide +kernel)) (pv 1)
      (fun _ _ _ _ _ _ _ _ => pg_name (i := 0) nd2 rfl (.inl rfl))
      (fun _ _ _ _ _ _ _ _ hr' => pe_c GD hr' (by rfl) (pa_cons (pv 1) (pa_cons (pv 0) pa_nil))))), ?_⟩
    refine ⟨_, rfl, p, xs, rfl, hS, ht PA hT, fun H2 s2 => ?_⟩
    refine ⟨fun ys σ' H' => (∃ v, σ' = [v, some (.int n)]) ∧ Same H H' ∧ (bs.take ys.length).all _root_.id = true, ⟨⟨none, rfl⟩, s2, rfl⟩, fun ys σ' H' h => h.2.1.seq hS, ?_, ?_⟩
    · rintro ys x σ' H' hx ⟨⟨v, rfl⟩, s', hb⟩
      obtain ⟨b, e, hB⟩ := (hL.same s').2 _ _ hx
      refine ⟨_, rfl, _, rfl, n, x, b, rfl, hB, b, rfl, ?_⟩
      cases b with
      | true =>
        rw [if_pos rfl]
        refine ⟨⟨_, rfl⟩, s', ?_⟩
        rw [List.length_append]
        show (bs.take (ys.length + 1)).all _root_.id = true
        rw [all_take e, hb]
        rfl
      | false =>
        rw [if_neg Bool.false_ne_true]
        have e2 : bs.all _root_.id = false := by
          rw [List.all_eq_false]
          exact ⟨false, List.mem_of_getElem? e, by simp⟩
        have := q H' s'
        rw [e2] at this
        exact this
    · rintro ys σ' H' hl ⟨⟨v, rfl⟩, s', hb⟩
      rw [List.take_of_length_le (by rw [hL.1]; omega)] at hb
      have := q H' s'
      rw [hb] at this
      exact this
end
end DR
/-! Dialrow: the greatest gaps are made the other way round. -/
namespace DR
/-- a change that makes a gap, by a mark -/
def Chg (m k g c : Int) : Prop := (c = g ∧ g ≤ k) ∨ (c = g - m ∧ k ≤ g)
def AllC (m k : Int) : List Int → List Int → Prop
  | [], [] => True
  | g :: gs, c :: cs => Chg m k g c ∧ AllC m k gs cs
  | _, _ => False
theorem allC_of {m k : Int} : ∀ {gs cs : List Int}, cs.length = gs.length → (∀ (i : Nat) (g c : Int), gs[i]? = some g → cs[i]? = some c → Chg m k g c) → AllC m k gs cs
  | [], [], _, _ => True.intro
  | [], _ :: _, h, _ => by simp at h
  | _ :: _, [], h, _ => by simp at h
  | g :: gs, c :: cs, h, f => ⟨f 0 g c rfl rfl, allC_of (by simpa using h) fun i g' c' h1 h2 => f (i + 1) g' c' h1 h2⟩
theorem least_chg {m k g c : Int} (h0 : 0 ≤ g) (h1 : g < m) (hm : 0 < m) (h : Chg m k g c) : least m k g = m * pos c - k * c := by
  have ex : (m - k) * g = m * g - k * g := Int.sub_mul _ _ _
  have ey : k * (m - g) = k * m - k * g := Int.mul_sub _ _ _
  have em : k * m = m * k := Int.mul_comm _ _
  unfold least
  rcases h with ⟨rfl, h⟩ | ⟨rfl, h⟩
  · have e : pos c = c := by unfold pos; rw [if_pos h0]
    have le : m * c ≤ m * k := Int.mul_le_mul_of_nonneg_left h (by omega)
    rw [e, Int.min_eq_left (by omega)]
    omega
  · have e : pos (g - m) = 0 := by unfold pos; rw [if_neg (by omega)]
    have le : m * k ≤ m * g := Int.mul_le_mul_of_nonneg_left h (by omega)
    have ez : k * (g - m) = k * g - k * m := Int.mul_sub _ _ _
    rw [e, Int.mul_zero, Int.min_eq_right (by omega)]
    omega
theorem bound_chg {m k : Int} (hm : 0 < m) : ∀ {gs cs : List Int}, (∀ g ∈ gs, 0 ≤ g ∧ g < m) → AllC m k gs cs → bound m k gs = m * cost cs - k * cs.sum
  | [], [], _, _ => by
    show (0 : Int) = m * 0 - k * 0
    omega
  | [], _ :: _, _, h => h.elim
  | _ :: _, [], _, h => h.elim
  | g :: gs, c :: cs, hg, h => by
    have ih := bound_chg (gs := gs) (cs := cs) hm (fun x hx => hg x (List.mem_cons_of_mem _ hx)) h.2
    obtain ⟨h0, h1⟩ := hg g List.mem_cons_self
    rw [bound_cons, ih, least_chg h0 h1 hm h.1, cost_cons, List.sum_cons, Int.mul_add, Int.mul_add]
    omega
theorem allC_mod {m k : Int} : ∀ {gs cs : List Int}, AllC m k gs cs → cs.map (· % m) = gs.map (· % m)
  | [], [], _ => rfl
  | [], _ :: _, h => h.elim
  | _ :: _, [], h => h.elim
  | g :: gs, c :: cs, h => by
    rw [List.map_cons, List.map_cons, allC_mod h.2]
    congr 1
    rcases h.1 with ⟨rfl, _⟩ | ⟨rfl, _⟩
    · rfl
    · exact Int.sub_emod_right g m
theorem allC_length {m k : Int} : ∀ {gs cs : List Int}, AllC m k gs cs → cs.length = gs.length
  | [], [], _ => rfl
  | [], _ :: _, h => h.elim
  | _ :: _, [], h => h.elim
  | g :: gs, c :: cs, h => by rw [List.length_cons, List.length_cons, allC_length h.2]
theorem allC_small {m k : Int} (hm : 0 < m) : ∀ {gs cs : List Int}, (∀ g ∈ gs, 0 ≤ g ∧ g < m) → AllC m k gs cs → ∀ c ∈ cs, ab c ≤ m
  | [], [], _, _ => fun c hc => by cases hc
  | [], _ :: _, _, h => h.elim
  | _ :: _, [], _, h => h.elim
  | g :: gs, c :: cs, hg, h => fun x hx => by
    obtain ⟨h0, h1⟩ := hg g List.mem_cons_self
    rcases List.mem_cons.mp hx with e | hx
    · subst e
      rcases h.1 with ⟨rfl, _⟩ | ⟨rfl, _⟩ <;> (unfold ab; split <;> omega)
    · exact allC_small hm (fun y hy => hg y (List.mem_cons_of_mem _ hy)) h.2 x hx
/-! ### some places made the other way round -/
def dropAt (m : Int) (gs : List Int) (D : List Nat) : List Int := gs.mapIdx fun i g => if i ∈ D then g - m else g
theorem dropAt_length (m : Int) (gs : List Int) (D : List Nat) : (dropAt m gs D).length = gs.length := by unfold dropAt; rw [List.length_mapIdx]
theorem dropAt_get (m : Int) (gs : List Int) (D : List Nat) (i : Nat) : (dropAt m gs D)[i]? = gs[i]?.map fun g => if i ∈ D then g - m else g := by
  unfold dropAt; rw [List.getElem?_mapIdx]
theorem dropAt_nil (m : Int) (gs : List Int) : dropAt m gs [] = gs := by
  refine List.ext_getElem? fun i => ?_
  rw [dropAt_get]
  cases gs[i]? with
  | none => rfl
  | some g => simp
theorem dropAt_step {m : Int} {gs : List Int} {D : List Nat} {i : Nat} {g : Int} (hg : gs[i]? = some g) : (dropAt m gs D).set i (g - m) = dropAt m gs (D ++ [i]) := by
  refine List.ext_getElem? fun j => ?_
  rw [List.getElem?_set, dropAt_length, dropAt_get, dropAt_get]
  have hi := (List.getElem?_eq_some_iff.mp hg).1
  by_cases e : i = j
  · subst e
    rw [if_pos rfl, if_pos hi, hg]
    show some (g - m) = some (if i ∈ D ++ [i] then g - m else g)
    rw [if_pos (List.mem_append_right _ (List.mem_singleton.mpr rfl))]
  · rw [if_neg e]
    cases gs[j]? with
    | none => rfl
    | some x =>
      show some (if j ∈ D then x - m else x) = some (if j ∈ D ++ [i] then x - m else x)
      by_cases hj : j ∈ D
      · rw [if_pos hj, if_pos (List.mem_append_left _ hj)]
      · rw [if_neg hj, if_neg (fun z => (List.mem_append.mp z).elim hj fun w => e (List.mem_singleton.mp w).symm)]
theorem sum_set : ∀ {l : List Int} {i : Nat} {x y : Int}, l[i]? = some x → (l.set i y).sum = l.sum - x + y
  | [], _, _, _, h => by simp at h
  | a :: l, 0, x, y, h => by
    have e : a = x := by simpa using h
    subst e
    show (y :: l).sum = (a :: l).sum - a + y
    rw [List.sum_cons, List.sum_cons]; omega
  | a :: l, i + 1, x, y, h => by
    have ih := sum_set (l := l) (i := i) (x := x) (y := y) (by simpa using h)
    show (a :: l.set i y).sum = (a :: l).sum - x + y
    rw [List.sum_cons, List.sum_cons, ih]; omega
theorem nodup_take_not {D : List Nat} (h : D.Nodup) {j i : Nat} (hj : D[j]? = some i) : i ∉ D.take j := by
  intro hm
  obtain ⟨k, hk⟩ := List.mem_iff_getElem?.mp hm
  have hkj : k < j := by
    have := (List.getElem?_eq_some_iff.mp hk).1
    rw [List.length_take] at this
    omega
  rw [List.getElem?_take_of_lt hkj] at hk
  have a := (List.getElem?_eq_some_iff.mp hk).1
  have b := (List.getElem?_eq_some_iff.mp hj).1
  have ea := (List.getElem?_eq_some_iff.mp hk).2
  have eb := (List.getElem?_eq_some_iff.mp hj).2
  have := (List.getElem_inj (h₀ := a) (h₁ := b) h).mp (by rw [ea, eb])
  omega
theorem dropAt_sum {m : Int} {gs : List Int} {D : List Nat} (hn : D.Nodup) (hl : ∀ i ∈ D, i < gs.length) : ∀ j, j ≤ D.length → (dropAt m gs (D.take j)).sum = gs.sum - m * j
  | 0, _ => by
    rw [List.take_zero, dropAt_nil]
    show gs.sum = gs.sum - m * 0
    omega
  | j + 1, h => by
    have ih := dropAt_sum (m := m) hn hl j (by omega)
    have hj := List.getElem?_eq_getElem (show j < D.length by omega)
    have hi := hl D[j] (List.getElem_mem _)
    have hg := List.getElem?_eq_getElem hi
    rw [take_snoc hj, ← dropAt_step hg]
    have old : (dropAt m gs (D.take j))[D[j]]? = some gs[D[j]] := by
      rw [dropAt_get, hg]
      show some (if D[j] ∈ D.take j then _ else _) = _
      rw [if_neg (nodup_take_not hn hj)]
    rw [sum_set old, ih]
    have : m * ((j + 1 : Nat) : Int) = m * (j : Int) + m := by rw [Int.natCast_add, Int.mul_add]; omega
    omega
/-! ### by the order of the gaps -/
def pairs (gs : List Int) : List (Int × Int) := gs.mapIdx fun i g => (g, (i : Int))
theorem pairs_mem {gs : List Int} {p : Int × Int} : p ∈ pairs gs ↔ ∃ i : Nat, gs[i]? = some p.1 ∧ p.2 = (i : Int) := by
  unfold pairs
  constructor
  · intro h
    obtain ⟨i, hi⟩ := List.mem_iff_getElem?.mp h
    rw [List.getElem?_mapIdx] at hi
    cases e : gs[i]? with
    | none => rw [e] at hi; cases hi
    | some g =>
      rw [e] at hi
      have := Option.some.inj hi
      subst this
      exact ⟨i, e, rfl⟩
  · rintro ⟨i, h1, h2⟩
    refine List.mem_iff_getElem?.mpr ⟨i, ?_⟩
    rw [List.getElem?_mapIdx, h1]
    obtain ⟨a, b⟩ := p
    show some (a, (i : Int)) = some (a, b)
    rw [show b = (i : Int) from h2]
theorem pairs_nodup (gs : List Int) : ((pairs gs).map fun p => p.2.toNat).Nodup := by
  have e : (pairs gs).map (fun p => p.2.toNat) = List.range gs.length := by
    refine List.ext_getElem? fun i => ?_
    unfold pairs
    rw [List.getElem?_map, List.getElem?_mapIdx]
    by_cases h : i < gs.length
    · rw [List.getElem?_eq_getElem h, List.getElem?_range h]
      rfl
    · rw [List.getElem?_eq_none (by omega), List.getElem?_eq_none (by rw [List.length_range]; omega)]
      rfl
  rw [e]
  exact List.nodup_range
structure Ord (gs : List Int) (ps : List (Int × Int)) : Prop where
  perm : ps.Perm (pairs gs)
  asc : ps.Pairwise fun p q => p.1 ≤ q.1
theorem Ord.len {gs : List Int} {ps : List (Int × Int)} (h : Ord gs ps) : ps.length = gs.length := by
  rw [h.perm.length_eq]; unfold pairs; rw [List.length_mapIdx]
theorem Ord.le {gs : List Int} {ps : List (Int × Int)} (h : Ord gs ps) {i j : Nat} {p q : Int × Int} (hp : ps[i]? = some p) (hq : ps[j]? = some q) (hij : i ≤ j) : p.1 ≤ q.1 := by
  rcases Nat.lt_or_eq_of_le hij with hlt | e
  · obtain ⟨a, ea⟩ := List.getElem?_eq_some_iff.mp hp
    obtain ⟨b, eb⟩ := List.getElem?_eq_some_iff.mp hq
    have := List.pairwise_iff_getElem.mp h.asc i j a b hlt
    rw [ea, eb] at this
    exact this
  · subst e
    rw [hp] at hq
    cases hq
    exact Int.le_refl _
/-- the places of the greatest ones -/
def tops (ps : List (Int × Int)) (kept : Nat) : List Nat := (ps.drop kept).map fun p => p.2.toNat
theorem Ord.nodup {gs : List Int} {ps : List (Int × Int)} (h : Ord gs ps) (kept : Nat) : (tops ps kept).Nodup := by
  have : (ps.map fun p => p.2.toNat).Nodup := (h.perm.map _).nodup_iff.mpr (pairs_nodup gs)
  unfold tops
  rw [List.map_drop]
  exact this.sublist (List.drop_sublist _ _)
theorem Ord.tops_lt {gs : List Int} {ps : List (Int × Int)} (h : Ord gs ps) (kept : Nat) : ∀ i ∈ tops ps kept, i < gs.length := by
  intro i hi
  obtain ⟨p, hp, e⟩ := List.mem_map.mp hi
  obtain ⟨j, h1, h2⟩ := pairs_mem.mp (h.perm.mem_iff.mp (List.mem_of_mem_drop hp))
  have := (List.getElem?_eq_some_iff.mp h1).1
  rw [← e, h2]
  omega
/-- the changes are right -/
theorem Ord.all {m : Int} {gs : List Int} {ps : List (Int × Int)} (h : Ord gs ps) {kept : Nat} (hk : 0 < kept) {k : Int × Int} (hkk : ps[kept - 1]? = some k) : AllC m k.1 gs (dropAt m gs (tops ps kept)) := by
  refine allC_of (dropAt_length _ _ _) fun i g c hg hc => ?_
  rw [dropAt_get, hg] at hc
  have hc' : (if i ∈ tops ps kept then g - m else g) = c := Option.some.inj hc
  by_cases hi : i ∈ tops ps kept
  · rw [if_pos hi] at hc'
    obtain ⟨p, hp, e⟩ := List.mem_map.mp hi
    obtain ⟨j, h1, h2⟩ := pairs_mem.mp (h.perm.mem_iff.mp (List.mem_of_mem_drop hp))
    have ej : j = i := by omega
    subst ej
    rw [hg] at h1
    have eg : g = p.1 := Option.some.inj h1
    obtain ⟨t, ht⟩ := List.mem_iff_getElem?.mp hp
    rw [List.getElem?_drop] at ht
    exact .inr ⟨hc'.symm, by rw [eg]; exact h.le hkk ht (by omega)⟩
  · rw [if_neg hi] at hc'
    obtain ⟨t, ht⟩ := List.mem_iff_getElem?.mp (h.perm.mem_iff.mpr (pairs_mem.mpr ⟨i, (show gs[i]? = some ((g, (i : Int)) : Int × Int).1 from hg), rfl⟩))
    by_cases hlt : t < kept
    · exact .inl ⟨hc'.symm, h.le ht hkk (by omega)⟩
    · refine absurd (List.mem_map.mpr ⟨(g, (i : Int)), List.mem_iff_getElem?.mpr ⟨t - kept, ?_⟩, ?_⟩) hi
      · rw [List.getElem?_drop, show kept + (t - kept) = t by omega]
        exact ht
      · show ((i : Int)).toNat = i
        omega
theorem Ord.sum {m : Int} {gs : List Int} {ps : List (Int × Int)} (h : Ord gs ps) {kept q : Nat} (hq : kept + q = gs.length) (hs : gs.sum = m * q) : (dropAt m gs (tops ps kept)).sum = 0 := by
  have hl : (tops ps kept).length = q := by unfold tops; rw [List.length_map, List.length_drop, h.len]; omega
  have := dropAt_sum (m := m) (h.nodup kept) (h.tops_lt kept) q (by omega)
  rw [List.take_of_length_le (by omega)] at this
  omega
/-- how many sizes the gaps make -/
theorem sum_lt {m : Int} : ∀ {gs : List Int}, (∀ g ∈ gs, 0 ≤ g ∧ g < m) → gs ≠ [] → 0 ≤ gs.sum ∧ gs.sum < m * gs.length
  | [], _, h => absurd rfl h
  | [g], h, _ => by
    have := h g List.mem_cons_self
    show 0 ≤ [g].sum ∧ [g].sum < m * ((1 : Nat) : Int)
    simp
    omega
  | g :: g2 :: r, h, _ => by
    have ih := sum_lt (m := m) (gs := g2 :: r) (fun x hx => h x (List.mem_cons_of_mem _ hx)) (by simp)
    have := h g List.mem_cons_self
    rw [List.sum_cons, List.length_cons]
    have : m * (((g2 :: r).length + 1 : Nat) : Int) = m * ((g2 :: r).length : Int) + m := by rw [Int.natCast_add, Int.mul_add]; omega
    omega
theorem sum_mod {m : Int} : ∀ l : List Int, (l.map (· % m)).sum % m = l.sum % m
  | [] => rfl
  | x :: r => by
    rw [List.map_cons, List.sum_cons, List.sum_cons]
    rw [Int.emod_add_emod, Int.add_emod, sum_mod r, ← Int.add_emod]
theorem sizes_of {m : Int} (hm : 0 < m) {xs ys : List Int} (hl : xs.length = ys.length) : ∃ q : Nat, ((raw xs ys).map (· % m)).sum = m * q ∧ q < xs.length + 1 ∧ ((raw xs ys).map (· % m)).sum / m = (q : Int) := by
  have hr := raw_length hl
  have hne : (raw xs ys).map (· % m) ≠ [] := by
    intro e
    have := congrArg List.length e
    rw [List.length_map, hr] at this
    simp at this
  have hg : ∀ g ∈ (raw xs ys).map (· % m), 0 ≤ g ∧ g < m := fun g hg => by
    obtain ⟨y, _, e⟩ := List.mem_map.mp hg
    rw [← e]
    exact ⟨Int.emod_nonneg _ (by omega), Int.emod_lt_of_pos _ hm⟩
  obtain ⟨h0, h1⟩ := sum_lt hg hne
  have hz : ((raw xs ys).map (· % m)).sum % m = 0 := by rw [sum_mod, raw_sum, Int.zero_emod]
  rw [List.length_map, hr] at h1
  generalize ((raw xs ys).map (· % m)).sum = S at *
  have hd := Int.mul_ediv_add_emod S m
  have hq0 : 0 ≤ S / m := Int.ediv_nonneg h0 (by omega)
  refine ⟨(S / m).toNat, by rw [Int.toNat_of_nonneg hq0]; omega, ?_, by rw [Int.toNat_of_nonneg hq0]⟩
  have : S / m < ((xs.length + 1 : Nat) : Int) := by
    refine Int.lt_of_mul_lt_mul_left (a := m) ?_ (by omega)
    omega
  omega
end DR
/-! Dialrow: deeds over changes, none turned back by another one. -/
namespace DR
abbrev Owed := List (Int × Int)
/-- what is still to be made up for at a place -/
def wsum : Owed → Int → Int
  | [], _ => 0
  | p :: r, x => (if p.1 ≤ x then p.2 else 0) + wsum r x
theorem wsum_snoc (p : Int × Int) (x : Int) : ∀ ws : Owed, wsum (ws ++ [p]) x = wsum ws x + if p.1 ≤ x then p.2 else 0
  | [] => by show (if p.1 ≤ x then p.2 else 0) + (0 : Int) = 0 + _; omega
  | q :: r => by
    show (if q.1 ≤ x then q.2 else 0) + wsum (r ++ [p]) x = (if q.1 ≤ x then q.2 else 0) + wsum r x + _
    rw [wsum_snoc p x r]; omega
def wpos (ws : Owed) : Int := cost (ws.map (·.2))
theorem wpos_snoc (ws : Owed) (p : Int × Int) : wpos (ws ++ [p]) = wpos ws + pos p.2 := by
  unfold wpos
  rw [List.map_append, cost_append, List.map_cons, List.map_nil, cost_cons]
  show _ + (pos p.2 + 0) = _
  omega
/-- one sign -/
def Sg (ws : Owed) : Prop := (∀ p ∈ ws, 0 < p.2) ∨ ∀ p ∈ ws, p.2 < 0
/-- deeds at place i, with left still to be made up for there -/
structure Ov (B : Int) (n : Nat) (cs : List Int) (i : Nat) (left : Int) (ds : List Deed) (ws : Owed) : Prop where
  cov : ∀ x : Nat, cover ds x + wsum ws x + (if i ≤ x then left else 0) = ((cs.take (i + 1)).take (x + 1)).sum
  sg : Sg ws
  cst : steps ds + wpos ws + pos left = cost (cs.take (i + 1))
  ok : DeedsOk i ds
  pl : ∀ p ∈ ws, 0 ≤ p.1 ∧ p.1 < i
  sm : ∀ p ∈ ws, ab p.2 ≤ B
  sl : ab left ≤ B
  few : ds.length + ws.length + (if left = 0 then 0 else 1) ≤ i + 1
/-- .. before it -/
structure Ov0 (B : Int) (cs : List Int) (i : Nat) (ds : List Deed) (ws : Owed) : Prop where
  cov : ∀ x : Nat, cover ds x + wsum ws x = ((cs.take i).take (x + 1)).sum
  sg : Sg ws
  cst : steps ds + wpos ws = cost (cs.take i)
  ok : DeedsOk ((i : Int) - 1) ds
  pl : ∀ p ∈ ws, 0 ≤ p.1 ∧ p.1 < i
  sm : ∀ p ∈ ws, ab p.2 ≤ B
  few : ds.length + ws.length ≤ i
theorem Ov0.nil {B : Int} {cs : List Int} : Ov0 B cs 0 [] [] :=
  { cov := fun x => by rw [List.take_zero, List.take_nil]; rfl
    sg := Or.inl (fun _ h => absurd h List.not_mem_nil)
    cst := by rw [List.take_zero]; rfl
    ok := fun _ h => absurd h List.not_mem_nil
    pl := fun _ h => absurd h List.not_mem_nil
    sm := fun _ h => absurd h List.not_mem_nil
    few := Nat.le_refl _ }
theorem Ov0.start {B : Int} {cs : List Int} {i : Nat} {ds : List Deed} {ws : Owed} {c : Int} (h : Ov0 B cs i ds ws) (hc : cs[i]? = some c) (hB : ab c ≤ B) : Ov B 0 cs i c ds ws := by
  have hi := (List.getElem?_eq_some_iff.mp hc).1
  refine ⟨fun x => ?_, h.sg, ?_, fun d hd => ?_, h.pl, h.sm, hB, ?_⟩
  · rw [h.cov x, take_snoc hc, List.take_append, sumI_append, List.length_take, Nat.min_eq_left (by omega)]
    by_cases hx : i ≤ x
    · rw [if_pos hx, show x + 1 - i = (x - i) + 1 by omega]
      show _ = _ + (c :: List.take (x - i) []).sum
      rw [List.take_nil]
      show _ = _ + (c + 0)
      omega
    · rw [if_neg hx, show x + 1 - i = 0 by omega, List.take_zero]
      rfl
  · rw [take_snoc hc, cost_append, h.cst]
    show _ = _ + (pos c + 0)
    omega
  · have := h.ok d hd
    exact ⟨this.1, this.2.1, by have := this.2.2.1; omega, this.2.2.2⟩
  · have := h.few
    split <;> omega
theorem pos_le_ab (x : Int) : pos x ≤ ab x := by unfold pos ab; split <;> split <;> omega
theorem Sg.front {ws : Owed} {p : Int × Int} (h : Sg (ws ++ [p])) : Sg ws := h.elim (fun f => .inl fun q hq => f q (List.mem_append_left _ hq)) fun f => .inr fun q hq => f q (List.mem_append_left _ hq)
theorem Sg.last {ws : Owed} {p q : Int × Int} (h : Sg (ws ++ [p])) (hq : 0 < p.2 → 0 < q.2) (hn : p.2 < 0 → q.2 < 0) : Sg (ws ++ [q]) := by
  have hm : p ∈ ws ++ [p] := List.mem_append_right _ (List.mem_singleton.mpr rfl)
  rcases h with f | f
  · refine .inl fun r hr => ?_
    rcases List.mem_append.mp hr with k | k
    · exact f r (List.mem_append_left _ k)
    · rw [List.mem_singleton.mp k]; exact hq (f p hm)
  · refine .inr fun r hr => ?_
    rcases List.mem_append.mp hr with k | k
    · exact f r (List.mem_append_left _ k)
    · rw [List.mem_singleton.mp k]; exact hn (f p hm)
theorem Ov.place {B : Int} {n i : Nat} {cs : List Int} {left : Int} {ds : List Deed} {ws : Owed} {p : Int × Int} (h : Ov B n cs i left ds (ws ++ [p])) : 0 ≤ p.1 ∧ p.1 < i ∧ ab p.2 ≤ B :=
  have hm : p ∈ ws ++ [p] := List.mem_append_right _ (List.mem_singleton.mpr rfl)
  ⟨(h.pl p hm).1, (h.pl p hm).2, h.sm p hm⟩
theorem steps_snoc (ds : List Deed) (d : Deed) : steps (ds ++ [d]) = steps ds + ab d.2.2 := by
  rw [steps_append]
  show _ + (ab d.2.2 + 0) = _
  omega
theorem DeedsOk.snoc {n : Int} {ds : List Deed} {d : Deed} (h : DeedsOk n ds) (hd : DeedOk n d) : DeedsOk n (ds ++ [d]) := fun e he => by
  rcases List.mem_append.mp he with k | k
  · exact h e k
  · rw [List.mem_singleton.mp k]; exact hd
theorem prod_neg {x y : Int} (h : x * y < 0) : (x < 0 ∧ 0 < y) ∨ (0 < x ∧ y < 0) := by
  rcases Int.lt_trichotomy x 0 with hx | hx | hx
  · rcases Int.lt_trichotomy y 0 with hy | hy | hy
    · have := Int.mul_pos_of_neg_of_neg hx hy; omega
    · subst hy; simp at h
    · exact .inl ⟨hx, hy⟩
  · subst hx; simp at h
  · rcases Int.lt_trichotomy y 0 with hy | hy | hy
    · exact .inr ⟨hx, hy⟩
    · subst hy; simp at h
    · have := Int.mul_pos hx hy; omega
/-- all that is owed at a place is turned -/
theorem Ov.whole {B : Int} {n i : Nat} {cs : List Int} {left f o : Int} {ds : List Deed} {ws : Owed} (h : Ov B n cs i left ds (ws ++ [(f, o)])) (hn : o * left < 0) (hle : ab o ≤ ab left) : Ov B n cs i (left + o) (ds ++ [(f, (i : Int), o)]) ws := by
  obtain ⟨p1, p2, p3⟩ := h.place
  have p1 : 0 ≤ f := p1
  have p2 : f < i := p2
  have hs := prod_neg hn
  have hl : left ≠ 0 := by omega
  refine ⟨fun x => ?_, h.sg.front, ?_, h.ok.snoc ⟨p1, p2, Int.le_refl _, (show o ≠ 0 by omega)⟩, fun q hq => h.pl q (List.mem_append_left _ hq), fun q hq => h.sm q (List.mem_append_left _ hq), ?_, ?_⟩
  · have := h.cov x
    rw [← this, cover_snoc, wsum_snoc]
    dsimp only
    by_cases h1 : i ≤ x
    · rw [if_pos h1, if_pos h1, if_neg (by omega), if_pos (by omega)]; omega
    · rw [if_neg h1, if_neg h1]
      by_cases h2 : f ≤ x
      · rw [if_pos ⟨h2, by omega⟩, if_pos h2]; omega
      · rw [if_neg (by omega), if_neg h2]; omega
  · have := h.cst
    rw [← this, steps_snoc, wpos_snoc]
    have e : ab o + pos (left + o) = pos o + pos left := by
      unfold ab at hle ⊢
      unfold pos
      rcases hs with hs | hs
      · rw [if_pos hs.1] at hle ⊢
        rw [if_neg (by omega)] at hle
        rw [if_pos (by omega), if_neg (by omega), if_pos (by omega)]; omega
      · rw [if_neg (by omega)] at hle ⊢
        rw [if_pos hs.2] at hle
        by_cases hz : left + o = 0
        · rw [if_pos (by omega), if_pos (by omega), if_neg (by omega)]; omega
        · rw [if_neg (by omega), if_pos (by omega), if_neg (by omega)]
    show steps ds + ab o + wpos ws + pos (left + o) = steps ds + (wpos ws + pos o) + pos left
    omega
  · have := h.sl
    refine Int.le_trans ?_ this
    unfold ab at hle ⊢
    split <;> split <;> (try split at hle) <;> (try split at hle) <;> omega
  · have := h.few
    rw [if_neg hl, List.length_append] at this
    rw [List.length_append]
    have e1 : ([(f, o)] : Owed).length = 1 := rfl
    have e2 : ([(f, (i : Int), o)] : List Deed).length = 1 := rfl
    rw [e1] at this
    rw [e2]
    split <;> omega
/-- .. a part of it -/
theorem Ov.part {B : Int} {n i : Nat} {cs : List Int} {left f o : Int} {ds : List Deed} {ws : Owed} (h : Ov B n cs i left ds (ws ++ [(f, o)])) (hn : o * left < 0) (hle : ¬ ab o ≤ ab left) : Ov B n cs i (left + -left) (ds ++ [(f, (i : Int), -left)]) (ws ++ [(f, o - -left)]) := by
  obtain ⟨p1, p2, p3⟩ := h.place
  have p1 : 0 ≤ f := p1
  have p2 : f < i := p2
  have p3 : ab o ≤ B := p3
  have hs := prod_neg hn
  have hl : left ≠ 0 := by omega
  have hz : left + -left = 0 := by omega
  have hb : (o < 0 ∧ 0 < left ∧ o + left < 0) ∨ (0 < o ∧ left < 0 ∧ 0 < o + left) := by
    unfold ab at hle
    rcases hs with hs | hs
    · rw [if_pos hs.1, if_neg (by omega)] at hle; omega
    · rw [if_neg (by omega), if_pos hs.2] at hle; omega
  rw [hz]
  refine ⟨fun x => ?_, h.sg.last (fun (z : 0 < o) => (show 0 < o - -left by omega)) (fun (z : o < 0) => (show o - -left < 0 by omega)), ?_, h.ok.snoc ⟨p1, p2, Int.le_refl _, (show -left ≠ 0 by omega)⟩, fun q hq => ?_, fun q hq => ?_, ?_, ?_⟩
  · have := h.cov x
    rw [← this, cover_snoc, wsum_snoc, wsum_snoc]
    dsimp only
    by_cases h1 : i ≤ x
    · rw [if_pos h1, if_pos h1, if_neg (by omega), if_pos (by omega), if_pos (by omega)]; omega
    · rw [if_neg h1, if_neg h1]
      by_cases h2 : f ≤ x
      · rw [if_pos ⟨h2, by omega⟩, if_pos h2, if_pos h2]; omega
      · rw [if_neg (by omega), if_neg h2, if_neg h2]; omega
  · have := h.cst
    rw [← this, steps_snoc, wpos_snoc, wpos_snoc]
    have e : ab (-left) + pos (o - -left) + pos 0 = pos o + pos left := by
      unfold ab pos
      rcases hb with hb | hb
      · rw [if_pos (by omega), if_neg (by omega), if_pos (by omega), if_neg (by omega), if_pos (by omega)]; omega
      · rw [if_neg (by omega), if_pos (by omega), if_pos (by omega), if_pos (by omega), if_neg (by omega)]; omega
    show steps ds + ab (-left) + (wpos ws + pos (o - -left)) + pos 0 = steps ds + (wpos ws + pos o) + pos left
    omega
  · rcases List.mem_append.mp hq with k | k
    · exact h.pl q (List.mem_append_left _ k)
    · rw [List.mem_singleton.mp k]; exact ⟨p1, p2⟩
  · rcases List.mem_append.mp hq with k | k
    · exact h.sm q (List.mem_append_left _ k)
    · rw [List.mem_singleton.mp k]
      show ab (o - -left) ≤ B
      unfold ab at p3 ⊢
      split <;> split at p3 <;> omega
  · have := h.sl
    unfold ab at this ⊢
    split at this <;> (rw [if_neg (by omega)]; omega)
  · have := h.few
    rw [if_neg hl, List.length_append] at this
    rw [if_pos rfl, List.length_append, List.length_append]
    have e1 : ∀ p : Int × Int, ([p] : Owed).length = 1 := fun _ => rfl
    have e2 : ∀ p : Deed, ([p] : List Deed).length = 1 := fun _ => rfl
    rw [e1] at this ⊢
    rw [e2]
    omega
/-- nothing is left of it -/
theorem Ov.none {B : Int} {n i : Nat} {cs : List Int} {ds : List Deed} {ws : Owed} (h : Ov B n cs i 0 ds ws) : Ov0 B cs (i + 1) ds ws := by
  refine ⟨fun x => ?_, h.sg, ?_, fun d hd => ?_, fun p hp => ?_, h.sm, ?_⟩
  · have := h.cov x
    rw [← this]
    split <;> omega
  · have := h.cst
    rw [← this]
    show _ = _ + (0 : Int)
    omega
  · have := h.ok d hd
    exact ⟨this.1, this.2.1, by have := this.2.2.1; omega, this.2.2.2⟩
  · have := h.pl p hp
    omega
  · have := h.few
    rw [if_pos rfl] at this
    omega
/-- .. what is left waits -/
theorem Ov.wait {B : Int} {n i : Nat} {cs : List Int} {left : Int} {ds : List Deed} {ws : Owed} (h : Ov B n cs i left ds ws) (h0 : left ≠ 0) (hs : ∀ p, ws.getLast? = some p → ¬ p.2 * left < 0) : Ov0 B cs (i + 1) ds (ws ++ [((i : Int), left)]) := by
  refine ⟨fun x => ?_, ?_, ?_, fun d hd => ?_, fun p hp => ?_, fun p hp => ?_, ?_⟩
  · have := h.cov x
    rw [← this, wsum_snoc]
    show cover ds x + (wsum ws x + if (i : Int) ≤ (x : Int) then left else 0) = _
    by_cases hx : i ≤ x
    · rw [if_pos hx, if_pos (by omega)]; omega
    · rw [if_neg hx, if_neg (by omega)]; omega
  · have one : Sg ([((i : Int), left)] : Owed) := by
      rcases Int.lt_or_gt_of_ne h0 with k | k
      · exact .inr fun p hp => by rw [List.mem_singleton.mp hp]; exact k
      · exact .inl fun p hp => by rw [List.mem_singleton.mp hp]; exact k
    cases e : ws.getLast? with
    | none =>
      rw [List.getLast?_eq_none_iff.mp e]
      exact one
    | some p =>
      have hp := hs p e
      have hm : p ∈ ws := List.mem_of_getLast? e
      rcases h.sg with f | f
      · have hpp := f p hm
        refine .inl fun q hq => ?_
        rcases List.mem_append.mp hq with k | k
        · exact f q k
        · rw [List.mem_singleton.mp k]
          show 0 < left
          rcases Int.lt_or_gt_of_ne h0 with k2 | k2
          · exact absurd (Int.mul_neg_of_pos_of_neg hpp k2) hp
          · exact k2
      · have hpp := f p hm
        refine .inr fun q hq => ?_
        rcases List.mem_append.mp hq with k | k
        · exact f q k
        · rw [List.mem_singleton.mp k]
          show left < 0
          rcases Int.lt_or_gt_of_ne h0 with k2 | k2
          · exact k2
          · exact absurd (Int.mul_neg_of_neg_of_pos hpp k2) hp
  · have := h.cst
    rw [← this, wpos_snoc]
    show _ + (_ + pos left) = _
    omega
  · have := h.ok d hd
    exact ⟨this.1, this.2.1, by have := this.2.2.1; omega, this.2.2.2⟩
  · rcases List.mem_append.mp hp with k | k
    · have := h.pl p k; omega
    · rw [List.mem_singleton.mp k]
      show (0 : Int) ≤ i ∧ (i : Int) < ((i + 1 : Nat) : Int)
      omega
  · rcases List.mem_append.mp hp with k | k
    · exact h.sm p k
    · rw [List.mem_singleton.mp k]; exact h.sl
  · have := h.few
    rw [if_neg h0] at this
    rw [List.length_append]
    show _ + (_ + 1) ≤ _
    omega
theorem wsum_all {x : Int} : ∀ {ws : Owed}, (∀ p ∈ ws, p.1 ≤ x) → wsum ws x = (ws.map (·.2)).sum
  | [], _ => rfl
  | p :: r, h => by
    show (if p.1 ≤ x then p.2 else 0) + wsum r x = (p.2 :: r.map (·.2)).sum
    rw [if_pos (h p List.mem_cons_self), wsum_all fun q hq => h q (List.mem_cons_of_mem _ hq), List.sum_cons]
theorem sg_nil {ws : Owed} (h : Sg ws) (hz : (ws.map (·.2)).sum = 0) : ws = [] := by
  cases ws with
  | nil => rfl
  | cons p r =>
    exfalso
    have up : ∀ l : List Int, (∀ x ∈ l, 0 < x) → 0 ≤ l.sum := fun l => by
      induction l with
      | nil => intro _; exact Int.le_refl _
      | cons a l ih =>
        intro f
        rw [List.sum_cons]
        have := f a List.mem_cons_self
        have := ih fun x hx => f x (List.mem_cons_of_mem _ hx)
        omega
    have dn : ∀ l : List Int, (∀ x ∈ l, x < 0) → l.sum ≤ 0 := fun l => by
      induction l with
      | nil => intro _; exact Int.le_refl _
      | cons a l ih =>
        intro f
        rw [List.sum_cons]
        have := f a List.mem_cons_self
        have := ih fun x hx => f x (List.mem_cons_of_mem _ hx)
        omega
    rw [List.map_cons, List.sum_cons] at hz
    rcases h with f | f
    · have a := f p List.mem_cons_self
      have b := up (r.map (·.2)) fun x hx => by
        obtain ⟨q, hq, rfl⟩ := List.mem_map.mp hx
        exact f q (List.mem_cons_of_mem _ hq)
      omega
    · have a := f p List.mem_cons_self
      have b := dn (r.map (·.2)) fun x hx => by
        obtain ⟨q, hq, rfl⟩ := List.mem_map.mp hx
        exact f q (List.mem_cons_of_mem _ hq)
      omega
/-- deeds over changes -/
structure Over (cs : List Int) (ds : List Deed) : Prop where
  ok : DeedsOk ((cs.length : Int) - 1) ds
  cov : ∀ x : Nat, cover ds x = (cs.take (x + 1)).sum
  cst : steps ds = cost cs
  few : ds.length ≤ cs.length
theorem Ov0.over {B : Int} {cs : List Int} {ds : List Deed} {ws : Owed} (h : Ov0 B cs cs.length ds ws) (hz : cs.sum = 0) : Over cs ds := by
  have hc := h.cov cs.length
  have hw : ws = [] := by
    rw [List.take_of_length_le (Nat.le_refl _), List.take_of_length_le (by omega), hz, wsum_all fun p hp => by have := (h.pl p hp).2; omega] at hc
    have : cover ds (cs.length : Int) = 0 := (cover_out (n := cs.length) (ds := ds) fun d hd => by
      have := h.ok d hd
      exact ⟨this.1, this.2.1, by have := this.2.2.1; omega, this.2.2.2⟩).2
    exact sg_nil h.sg (by omega)
  subst hw
  refine ⟨h.ok, fun x => ?_, ?_, ?_⟩
  · have := h.cov x
    rw [List.take_of_length_le (Nat.le_refl _)] at this
    rw [← this]
    show _ = _ + (0 : Int)
    omega
  · have := h.cst
    rw [List.take_of_length_le (Nat.le_refl _)] at this
    rw [← this]
    show _ = _ + (0 : Int)
    omega
  · have := h.few
    exact this
end DR
namespace DR
open PySem PySem.Spec PyProof.Rows L2
def spDeeds (T : List Addr) (K : PySem.W.Frag) : Sp := fun vs H Q _ => ∃ (n : Int) (p : Addr) (as : List Addr) (ds : List Deed), vs = [.int n, .ref p] ∧ SqL K H p (as.map V.ref) ∧ DsAt H as ds ∧ DeedsOk n ds ∧ Tabs T H ∧ ∀ H', Same H H' → Q .non H'
def spTurned (T : List Addr) (K : PySem.W.Frag) : Sp := fun vs H Q _ => ∃ (m : Int) (a p : Addr) (ns : List Int) (as : List Addr) (ds : List Deed), vs = [.int m, .ref a, .ref p] ∧ SqL K H a (ns.map V.int) ∧ SqL K H p (as.map V.ref) ∧ DsAt H as ds ∧
  2 ≤ m ∧ RowOk m ns ∧ DeedsOk ns.length ds ∧ ns.length ≤ 1000 ∧ Tabs T H ∧ ∀ H' q, Same H H' → H q = none → H' q = some (.lst ((behind m ns ds).map V.int)) → Q (.ref q) H'
section
variable {P : Program} {w : World} {K : PySem.W.Frag} {mg : Str → Option Value} {base : Heap} {T : List Addr}
theorem scDeeds : FnScope ["dials", "deeds"] ["dials", "deeds"] (defScope sDeeds) := ⟨rfl, rfl, rfl, by decide +kernel, rfl, by decide +kernel, by decide +kernel⟩
theorem ok_deeds (D : Def K mg "check_deeds" sDeeds ["dials", "deeds"]) (B : Blt mg) (GA : Callee P w K mg base 4 "are_deeds" ["dials", "things"] (spAre T K)) : Callee P w K mg base 5 "check_deeds" ["dials", "deeds"] (spDeeds T K) := by
  refine D.ok scDeeds (fun vs H Q E h => ?_) (fun f cdv A outer s H vs Q E hr h => ?_)
  · obtain ⟨n, p, as, ds, rfl, _⟩ := h
    rfl
  · obtain ⟨n, p, as, ds, rfl, hS, hD, hok, hT, q⟩ := h
    refine ⟨_, pss_cons (ps_if (pt_not (pt_val (pe_callB call_isi (by rfl) B.isi boot_isinstance (pa_cons (pv 1) (pa_cons (pe_bltn (v := .ty "list") (by rfl) B.list PyProof.Rows.boot_list rfl) pa_nil))))) (pss_one ps_never) pss_nil)
      (pss_one (ps_if (pt_not (pt_val (pe_c GA hr (by rfl) (pa_cons (pv 0) (pa_cons (pv 1) pa_nil))))) (pss_one ps_never) pss_nil)), ?_⟩
    refine ⟨_, rfl, ⟨_, _, _, _, true, rfl, .ty _, (ty_lst hS), kit_ty (by decide +kernel), ⟨true, rfl, iteF ?_⟩⟩⟩
    refine ⟨_, rfl, _, rfl, n, p, _, _, rfl, hS, hT, looked_of hD, fun H' s' => ⟨_, rfl, ?_⟩⟩
    rw [deeds_all, decide_eq_true hok]
    exact iteF (q H' s')
theorem scTurned : FnScope ["size", "row", "deeds", "changes", "first", "end", "steps", "behind", "turn", "place", "figure"] ["size", "row", "deeds"] (defScope sTurned) := ⟨rfl, rfl, rfl, by decide +kernel, rfl, by decide +kernel, by decide +kernel⟩
theorem bump_V (c : List Int) (k : Nat) (s y : Int) (h : c[k]? = some y) : (c.map V.int).set k (.int (y + s)) = (bump c k s).map V.int := by
  unfold bump
  rw [List.map_set, List.getD_eq_getElem?_getD, h]; rfl
theorem bump_Vs (c : List Int) (k : Nat) (s y : Int) (h : c[k]? = some y) : (c.map V.int).set k (.int (y - s)) = (bump c k (-s)).map V.int := by
  rw [Int.sub_eq_add_neg]
  exact bump_V c k (-s) y h
theorem ok_turned (D : Def K mg "turned" sTurned ["size", "row", "deeds"]) (B : Blt mg) (GS : Callee P w K mg base 2 "check_size" ["size"] spSize) (GR : Callee P w K mg base 2 "check_row" ["size", "row"] (spRow K)) (GD : Callee P w K mg base 5 "check_deeds" ["dials", "deeds"] (spDeeds T K)) :
    Callee P w K mg base 6 "turned" ["size", "row", "deeds"] (spTurned T K) := by
  refine D.ok scTurned (fun vs H Q E h => ?_) (fun f cdv A outer s H vs Q E hr h => ?_)
  · obtain ⟨m, a, p, ns, as, ds, rfl, _⟩ := h
    rfl
  · obtain ⟨m, a, p, ns, as, ds, rfl, hS, hP, hD, hm, hR, hok, hl, hT, q⟩ := h
    have hr2 : Room 2 _ := hr.mono (by decide)
    refine ⟨_, pss_cons (ps_expr (pe_c GS hr2 (by rfl) (pa_cons (pv 0) pa_nil)))
      (pss_cons (ps_expr (pe_c GR hr2 (by rfl) (pa_cons (pv 0) (pa_cons (pv 1) pa_nil))))
      (pss_cons (ps_expr (pe_c GD hr (by rfl) (pa_cons (pe_callB call_len_seq (by rfl) B.len PySem.boot_len (pa_cons (pv 1) pa_nil)) (pa_cons (pv 2) pa_nil))))
      (pss_cons (ps_set (i := 3) scTurned.nd rfl (.inl rfl) (pe_op op_rep (pe_lst (pa_cons pe_int pa_nil)) (pe_op op_add (pe_callB call_len_seq (by rfl) B.len PySem.boot_len (pa_cons (pv 1) pa_nil)) pe_int)))
      (pss_cons (ps_for PassesOwn.never rfl (pi_list (pv 2)) (pg_tup (by rfl) (pgs_cons (pg_name (i := 4) scTurned.nd rfl (.inl rfl)) (pgs_cons (pg_name (i := 5) scTurned.nd rfl (.inl rfl)) (pgs_cons (pg_name (i := 6) scTurned.nd rfl (.inl rfl)) pgs_nil))))
        (pss_cons (ps_augS (pv 3) (pv 4) get_list (pv 6) ip_add set_list) (pss_one (ps_augS (pv 3) (pv 5) get_list (pv 6) ip_sub set_list))))
      (pss_cons (ps_set (i := 7) scTurned.nd rfl (.inl rfl) (pe_lst pa_nil))
      (pss_cons (ps_set (i := 8) scTurned.nd rfl (.inl rfl) pe_int)
      (pss_cons (ps_for PassesOwn.never rfl (pi_enum (by rfl) B.enumerate (pa_cons (pv 1) pa_nil)) (pg_tup (by rfl) (pgs_cons (pg_name (i := 9) scTurned.nd rfl (.inl rfl)) (pgs_cons (pg_name (i := 10) scTurned.nd rfl (.inl rfl)) pgs_nil)))
        (pss_cons (ps_aug (i := 8) scTurned.nd rfl (.inl rfl) (pe_ix ix_list (pv 3) (pv 9) (fun _ _ => rfl)) ip_add)
        (pss_one (ps_expr (pe_bm PySem.F.plainAttrs_list PySem.F.slot_list_append PySem.F.type_list_append mt_append (pv 7) (pa_cons (pe_op op_mod (pe_op op_add (pv 10) (pv 8)) (pv 0)) pa_nil))))))
      (pss_one (ps_ret (pv 7)))))))))), ?_⟩
    -- the checks
    refine ⟨_, rfl, m, rfl, hm, ?_⟩
    refine ⟨_, rfl, _, rfl, m, a, ns, rfl, hS, hR, ?_⟩
    refine ⟨_, rfl, a, _, rfl, .inl hS, _, rfl, _, p, as, ds, rfl, hP, hD, by rw [List.length_map]; exact hok, hT, fun H s0 => ?_⟩
    replace hS := s0.seq hS
    replace hP := s0.seq hP
    replace hD := hD.same s0
    replace q : ∀ H' q, Same H H' → H q = none → H' q = some (.lst ((behind m ns ds).map V.int)) → Q (.ref q) H' := fun H' z s n e => q H' z (s0.trans s) (s0.free n) e
    -- changes = [0] * (len(row) + 1)
    refine ⟨by show 1 ≤ sizeLine; decide, fun l hl1 => ?_⟩
    have s1 : Same H (upd H l (.lst [.int 0])) := same_new hl1
    refine ⟨_, rfl, a, _, rfl, .inl (s1.seq hS), _, _, rfl, rfl, l, _, _, rfl, rfl, upd_same, ?_, ?_, ?_, fun c hc => ?_⟩
    · rw [List.length_map]; omega
    · rw [List.length_map]; omega
    · rw [List.length_map]
      exact line_of (by show ([V.int 0] : List V).length * _ ≤ _; simp only [List.length_cons, List.length_nil]; omega)
    have s2 : Same H (upd (upd H l (.lst [.int 0])) c (.lst (List.replicate (((ns.map V.int).length : Int) + 1).toNat [V.int 0]).flatten)) := s1.trans (same_new hc)
    have ec : (List.replicate (((ns.map V.int).length : Int) + 1).toNat [V.int 0]).flatten = (marks ns.length []).map V.int := by
      rw [List.length_map, show ((ns.length : Int) + 1).toNat = ns.length + 1 by omega]
      unfold marks
      show _ = (List.replicate (ns.length + 1) (0 : Int)).map V.int
      rw [List.map_replicate, List.flatten_replicate_singleton]
    have hcH : H c = none := s1.free hc
    -- the stretches' ends
    refine ⟨_, rfl, p, rfl, ⟨_, s2.seq hP⟩, for_list (K := K) (a := p) (xs := as.map V.ref)
      (fun i σ H2 => (∃ x4 x5 x6, σ = [some (.int m), some (.ref a), some (.ref p), some (.ref c), x4, x5, x6, none, none, none, none]) ∧ Same H H2 ∧ H2 c = some (.lst ((marks ns.length (ds.take i)).map V.int)))
      ⟨⟨none, none, none, rfl⟩, s2, by rw [upd_same, ec]; rfl⟩ (fun i σ H2 _ h => h.2.1.seq hP) ?_ ?_⟩
    · rintro i y σ H2 hi ⟨⟨x4, x5, x6, rfl⟩, sm, hc2⟩
      obtain ⟨t, ht, rfl⟩ := ref_at hi
      obtain ⟨⟨x, y, z⟩, hd, hT⟩ := hD.at_ i t ht
      obtain ⟨g1, g2, g3, g4⟩ := hok (x, y, z) (List.mem_of_getElem? hd)
      have g1' : 0 ≤ x := g1
      have g2' : x < y := g2
      have g3' : y ≤ (ns.length : Int) := g3
      obtain ⟨xn, rfl⟩ : ∃ k : Nat, x = (k : Int) := ⟨x.toNat, by omega⟩
      obtain ⟨yn, rfl⟩ : ∃ k : Nat, y = (k : Int) := ⟨y.toNat, by omega⟩
      have hlen := marks_length ns.length (ds.take i)
      have hx : xn < (marks ns.length (ds.take i)).length := by omega
      have hy : yn < (bump (marks ns.length (ds.take i)) xn z).length := by rw [bump_length]; omega
      have vx := List.getElem?_eq_getElem hx
      have vy := List.getElem?_eq_getElem hy
      refine ⟨t, _, rfl, .inl (.inl (sm _ _ hT)), rfl, _, _, rfl, _, _, rfl, _, _, rfl, rfl, ?_⟩
      refine ⟨_, rfl, _, rfl, c, _, _, _, rfl, rfl, SqL.of hc2, g1, atI_nat (at_map vx), _, rfl, _, _, rfl, rfl, c, _, _, xn, rfl, rfl, hc2, ixN_nat (by rw [List.length_map]; exact hx), ?_⟩
      rw [bump_V _ _ _ _ vx]
      refine ⟨_, rfl, _, rfl, c, _, _, _, rfl, rfl, SqL.of upd_same, by omega, atI_nat (at_map vy), _, rfl, _, _, rfl, rfl, c, _, _, yn, rfl, rfl, upd_same, ixN_nat (by rw [List.length_map]; exact hy), ?_⟩
      refine ⟨⟨_, _, _, rfl⟩, smut (smut sm hcH) hcH, ?_⟩
      rw [upd_same, take_snoc hd, marks_snoc]
      exact congrArg (fun q => some (HO.lst q)) (bump_Vs _ _ _ _ vy)
    · rintro σ H2 ⟨⟨x4, x5, x6, rfl⟩, sm, hc2⟩
      have ed : ds.take (as.map V.ref).length = ds := List.take_of_length_le (by rw [List.length_map, hD.len]; exact Nat.le_refl _)
      rw [ed] at hc2
      -- behind = []; turn = 0
      refine ⟨Nat.zero_le _, fun b hb => ?_⟩
      have hbH : H b = none := sm.free hb
      have hbc : c ≠ b := ne_of_none hc2 hb
      refine ⟨_, rfl, a, _, rfl, (smut sm hbH).seq hS, for_it (walk_enum (K := K) (a := a) (xs := ns.map V.int))
        (fun i σ H3 => (∃ x4 x5 x6 x9 x10, σ = [some (.int m), some (.ref a), some (.ref p), some (.ref c), x4, x5, x6, some (.ref b), some (.int ((marks ns.length ds).take i).sum), x9, x10]) ∧ Same H H3 ∧
          H3 c = some (.lst ((marks ns.length ds).map V.int)) ∧ H3 b = some (.lst (((behind m ns ds).take i).map V.int)))
        ⟨⟨_, _, _, _, _, rfl⟩, smut sm hbH, by rw [upd_ne hbc]; exact hc2, upd_same⟩ (fun i σ H3 _ h => h.2.1.seq hS) ?_ ?_⟩
      · rintro i y σ H3 H4 hi ⟨⟨y4, y5, y6, y9, y10, rfl⟩, sm3, hc3, hb3⟩ ⟨t, u, v, rfl, nt, rfl, hu, hv⟩
        obtain ⟨z, hz, rfl⟩ := map_at hv
        cases hu
        have sm4 := sm3.trans (same_new (o := .tup [.int ((i : Nat) : Int), .int z]) nt)
        have hc4 : (upd H3 t (.tup [.int ((i : Nat) : Int), .int z])) c = some (.lst ((marks ns.length ds).map V.int)) := by rw [upd_ne (ne_of_none hc3 nt)]; exact hc3
        have hb4 : (upd H3 t (.tup [.int ((i : Nat) : Int), .int z])) b = some (.lst (((behind m ns ds).take i).map V.int)) := by rw [upd_ne (ne_of_none hb3 nt)]; exact hb3
        have hil := at_lt hz
        have hx : i < (marks ns.length ds).length := by rw [marks_length]; omega
        have vx := List.getElem?_eq_getElem hx
        have es : ((marks ns.length ds).take i).sum + (marks ns.length ds)[i] = cover ds i := by
          rw [← sum_take vx]
          exact marks_take hok i
        refine ⟨t, _, rfl, .inl (.inl upd_same), rfl, _, _, rfl, _, _, rfl, rfl, ?_⟩
        refine ⟨_, rfl, _, rfl, _, rfl, c, _, _, _, rfl, rfl, SqL.of hc4, atI_nat (at_map vx), _, _, rfl, rfl, ?_⟩
        refine ⟨_, rfl, .inl ⟨rfl, _, SqL.of hb4⟩, _, rfl, _, rfl, _, _, rfl, rfl, _, rfl, _, _, rfl, rfl, (show (0 : Int) < m by omega), b, _, _, rfl, rfl, hb4, ?_, ?_⟩
        · rw [List.length_map, List.length_take]
          exact line_lt (by omega)
        · refine ⟨⟨y4, y5, y6, some (.int ((i : Nat) : Int)), some (.int z), ?_⟩, smut sm4 hbH, ?_, ?_⟩
          · rw [sum_take vx]; rfl
          · rw [upd_ne hbc]; exact hc4
          · rw [upd_same]
            show some (HO.lst (((behind m ns ds).take i).map V.int ++ [V.int ((z + (((marks ns.length ds).take i).sum + (marks ns.length ds)[i])) % m)])) = _
            have eb : (behind m ns ds)[i]? = some ((z + cover ds i) % m) := by rw [behind_get, hz]; rfl
            rw [es, take_snoc eb, List.map_append]
            rfl
      · rintro σ H3 ⟨⟨y4, y5, y6, y9, y10, rfl⟩, sm3, hc3, hb3⟩
        have eb : (behind m ns ds).take (ns.map V.int).length = behind m ns ds := List.take_of_length_le (by rw [List.length_map, behind_length]; exact Nat.le_refl _)
        rw [eb] at hb3
        exact ⟨_, rfl, q H3 b sm3 hbH hb3⟩
end
end DR
namespace DR
open PySem PySem.Spec PyProof.Rows L2
def spSteps (T : List Addr) (K : PySem.W.Frag) : Sp := fun vs H Q _ => ∃ (p : Addr) (as : List Addr) (ds : List Deed), vs = [.ref p] ∧ SqL K H p (as.map V.ref) ∧ DsAt H as ds ∧ Tabs T H ∧ ∀ H', Same H H' → Q (.int (steps ds)) H'
def spGaps (K : PySem.W.Frag) : Sp := fun vs H Q _ => ∃ (m : Int) (a b : Addr) (xs ys : List Int), vs = [.int m, .ref a, .ref b] ∧ SqL K H a (xs.map V.int) ∧ SqL K H b (ys.map V.int) ∧ xs.length = ys.length ∧ xs.length ≤ 1000 ∧ 0 < m ∧
  ∀ H' p, Same H H' → H p = none → H' p = some (.lst (((raw xs ys).map (· % m)).map V.int)) → Q (.ref p) H'
def spLesser (T : List Addr) (K : PySem.W.Frag) : Sp := fun vs H Q _ => ∃ (m k : Int) (p : Addr) (gs : List Int), vs = [.int m, .ref p, .int k] ∧ SqL K H p (gs.map V.int) ∧ Tabs T H ∧ (∀ g ∈ gs, 0 ≤ g ∧ g < m) ∧ 0 ≤ k ∧ k ≤ m ∧ m < 2 ^ 200 ∧ ∀ H', Same H H' → Q (.int (bound m k gs)) H'
theorem min_if (y z : Int) : (if z < y then z else y) = min y z := by
  rw [Int.min_def]; split <;> split <;> omega
section
variable {P : Program} {w : World} {K : PySem.W.Frag} {mg : Str → Option Value} {base : Heap} {T : List Addr} {c PA : Addr}
theorem scSteps : FnScope ["deeds"] ["deeds"] (defScope sSteps) := ⟨rfl, rfl, rfl, by decide +kernel, rfl, by decide +kernel, by decide +kernel⟩
theorem ok_steps (D : DefT K mg "steps_of" sSteps ["deeds"] c) (TB : GxR.TabB base mg c PA) (hT : PA ∈ T) (B : Blt mg) (B2 : Blt2 mg) : Callee P w K mg base 2 "steps_of" ["deeds"] (spSteps T K) := by
  refine D.ok scSteps (fun vs H Q E h => ?_) (fun f A outer s H vs Q E hr h => ?_)
  · obtain ⟨p, as, ds, rfl, _⟩ := h
    rfl
  · obtain ⟨p, as, ds, rfl, hS, hD, ht, q⟩ := h
    have nd3 : (["first", "end", "steps"] : List Str).Nodup := by decide +kernel
    refine ⟨_, pss_one (ps_ret (pe_sumG (k := 0) (tn := 3) (js := []) (N := ["first", "end", "steps"]) (g := gTup K 3 (gCons (gName 0) (gCons (gName 1) (gCons (gName 2) gNil)))) hr (by rfl) B.sum TB rfl (gsc_by (sc := defScope sSteps) (XN := ["deeds"]) rfl rfl (by decide +kernel)) (pv 0)
      (fun _ _ _ _ _ _ _ _ => pg_tup (by rfl) (pgs_cons (pg_name (i := 0) nd3 rfl (.inl rfl)) (pgs_cons (pg_name (i := 1) nd3 rfl (.inl rfl)) (pgs_cons (pg_name (i := 2) nd3 rfl (.inl rfl)) pgs_nil))))
      (fun _ _ _ _ _ _ _ _ hr' => pe_callB call_abs (by rfl) B2.abs PyProof.Rows.boot_abs (pa_cons (pv 2) pa_nil)))), ?_⟩
    refine ⟨_, rfl, p, _, rfl, hS, ht PA hT, fun H2 s2 => ?_⟩
    refine ⟨fun ys σ' H' => (∃ x y z, σ' = [x, y, z]) ∧ Same H H' ∧ ys = ((ds.map fun d => ab d.2.2).take ys.length).map V.int, ds.map fun d => ab d.2.2, by rw [List.length_map, List.length_map, hD.len], ⟨⟨none, none, none, rfl⟩, s2, rfl⟩, fun ys σ' H' h => h.2.1.seq hS, fun ys σ' H' h => h.2.2, ?_, ?_⟩
    · rintro ys x σ' H' hx ⟨⟨x0, x1, x2, rfl⟩, s', hy⟩
      obtain ⟨t, ht', rfl⟩ := ref_at hx
      obtain ⟨⟨d1, d2, d3⟩, hd, hT'⟩ := (hD.same s').at_ _ t ht'
      refine ⟨t, _, rfl, .inl (.inl hT'), rfl, _, _, rfl, _, _, rfl, _, _, rfl, rfl, ?_⟩
      refine ⟨_, rfl, d3, rfl, ⟨_, _, _, rfl⟩, s', ?_⟩
      have e : (ds.map fun d => ab d.2.2)[ys.length]? = some (ab d3) := by rw [List.getElem?_map, hd]; rfl
      rw [List.length_append]
      show ys ++ [V.int (ab d3)] = ((ds.map fun d => ab d.2.2).take (ys.length + 1)).map V.int
      rw [take_snoc e, List.map_append, ← hy]
      rfl
    · rintro ys σ' H' hl ⟨_, s', hy⟩
      exact q H' s'
theorem scGaps : FnScope ["size", "one", "other", "gaps", "ahead", "figure", "wanted", "turn"] ["size", "one", "other"] (defScope sGaps) := ⟨rfl, rfl, rfl, by decide +kernel, rfl, by decide +kernel, by decide +kernel⟩
theorem ok_gaps (D : Def K mg "gaps_between" sGaps ["size", "one", "other"]) (B2 : Blt2 mg) : Callee P w K mg base 1 "gaps_between" ["size", "one", "other"] (spGaps K) := by
  refine D.ok scGaps (fun vs H Q E h => ?_) (fun f cdv A outer s H vs Q E hr h => ?_)
  · obtain ⟨m, a, b, xs, ys, rfl, _⟩ := h
    rfl
  · obtain ⟨m, a, b, xs, ys, rfl, hA, hB, hl, hle, hm, q⟩ := h
    refine ⟨_, pss_cons (ps_set (i := 3) scGaps.nd rfl (.inl rfl) (pe_lst pa_nil))
      (pss_cons (ps_set (i := 4) scGaps.nd rfl (.inl rfl) pe_int)
      (pss_cons (ps_for PassesOwn.never rfl (pi_zip (by rfl) B2.zip (pa_cons (pv 1) (pa_cons (pv 2) pa_nil))) (pg_tup (by rfl) (pgs_cons (pg_name (i := 5) scGaps.nd rfl (.inl rfl)) (pgs_cons (pg_name (i := 6) scGaps.nd rfl (.inl rfl)) pgs_nil)))
        (pss_cons (ps_set (i := 7) scGaps.nd rfl (.inl rfl) (pe_op op_sub (pv 6) (pv 5)))
        (pss_cons (ps_expr (pe_bm PySem.F.plainAttrs_list PySem.F.slot_list_append PySem.F.type_list_append mt_append (pv 3) (pa_cons (pe_op op_mod (pe_op op_sub (pv 7) (pv 4)) (pv 0)) pa_nil)))
        (pss_one (ps_set (i := 4) scGaps.nd rfl (.inl rfl) (pv 7))))))
      (pss_cons (ps_expr (pe_bm PySem.F.plainAttrs_list PySem.F.slot_list_append PySem.F.type_list_append mt_append (pv 3) (pa_cons (pe_op op_mod (pe_op op_sub pe_int (pv 4)) (pv 0)) pa_nil)))
      (pss_one (ps_ret (pv 3)))))), ?_⟩
    refine ⟨Nat.zero_le _, fun l hl0 => ?_⟩
    -- the turns, nought ahead
    have hz : (List.zipWith (fun x y : Int => y - x) xs ys).length = xs.length := by rw [List.length_zipWith, hl]; exact Nat.min_self _
    generalize etz : (0 : Int) :: List.zipWith (fun x y : Int => y - x) xs ys = tz
    have htl : tz.length = xs.length + 1 := by rw [← etz, List.length_cons, hz]
    have er : raw xs ys = diffs (tz ++ [0]) := by
      unfold raw turns
      rw [← etz]
      rfl
    have dl : ∀ i, i ≤ xs.length → (diffs (tz.take (i + 1))).length = i := fun i hi => by
      rw [diffs_length, List.length_take, htl, Nat.min_eq_left (by omega)]
      rfl
    refine ⟨_, rfl, _, rfl, a, b, _, _, rfl, (same_new hl0).seq hA, (same_new hl0).seq hB, for_it (walk_zip (K := K) (a := a) (b := b) (xs := xs.map V.int) (ys := ys.map V.int) (n := xs.length) (by rw [List.length_map, List.length_map, hl]; exact (Nat.min_self _).symm))
      (fun i σ H2 => (∃ t x5 x6 x7, tz[i]? = some t ∧ σ = [some (.int m), some (.ref a), some (.ref b), some (.ref l), some (.int t), x5, x6, x7]) ∧ Same H H2 ∧ H2 l = some (.lst (((diffs (tz.take (i + 1))).map (· % m)).map V.int)))
      ⟨⟨0, none, none, none, by rw [← etz]; rfl, rfl⟩, same_new hl0, ?_⟩ (fun i σ H2 _ h => ⟨h.2.1.seq hA, h.2.1.seq hB⟩) ?_ ?_⟩
    · rw [upd_same, ← etz]
      rfl
    · rintro i x σ H2 H3 hi ⟨⟨t, x5, x6, x7, ht, rfl⟩, sm, hl2⟩ ⟨U, u, v, rfl, nU, rfl, hu, hv⟩
      obtain ⟨x, hx, rfl⟩ := map_at hu
      obtain ⟨y, hy, rfl⟩ := map_at hv
      have sU : Same H2 (upd H2 U (.tup [.int x, .int y])) := same_new nU
      have e : tz[i + 1]? = some (y - x) := by rw [← etz, List.getElem?_cons_succ, List.getElem?_zipWith, hx, hy]
      refine ⟨U, _, rfl, .inl (.inl upd_same), rfl, _, _, rfl, _, _, rfl, rfl, ?_⟩
      refine ⟨_, rfl, _, rfl, y, x, rfl, rfl, ?_⟩
      refine ⟨_, rfl, .inl ⟨rfl, _, SqL.of (sU _ _ hl2)⟩, _, rfl, _, rfl, _, _, rfl, rfl, _, rfl, _, m, rfl, rfl, hm, l, _, _, rfl, rfl, sU _ _ hl2, ?_, ?_⟩
      · rw [List.length_map, List.length_map, dl i (by omega)]
        exact line_lt (by omega)
      refine ⟨_, rfl, ⟨y - x, _, _, _, e, rfl⟩, smut (sm.trans sU) hl0, ?_⟩
      rw [upd_same, take_snoc e, take_snoc ht]
      have := diffs_snoc2 (l := tz.take i) (x := t) (y := y - x)
      rw [this, List.map_append, List.map_append]
      rfl
    · rintro σ H2 ⟨⟨t, x5, x6, x7, ht, rfl⟩, sm, hl2⟩
      refine ⟨_, rfl, .inl ⟨rfl, _, SqL.of hl2⟩, _, rfl, 0, t, rfl, rfl, _, rfl, _, m, rfl, rfl, hm, l, _, _, rfl, rfl, hl2, ?_, ?_⟩
      · rw [List.length_map, List.length_map, dl _ (Nat.le_refl _)]
        exact line_lt (by omega)
      refine ⟨_, rfl, q _ l (smut sm hl0) hl0 ?_⟩
      rw [upd_same, er]
      have e2 : tz = tz.take xs.length ++ [t] := by
        rw [← take_snoc ht, List.take_of_length_le (by omega)]
      have e3 := diffs_snoc2 (l := tz.take xs.length) (x := t) (y := 0)
      rw [← e2] at e3
      rw [e3, List.take_of_length_le (show tz.length ≤ xs.length + 1 by omega), List.map_append, List.map_append]
      rfl
theorem scLesser : FnScope ["size", "gaps", "mark"] ["size", "gaps", "mark"] (defScope sLesser) := ⟨rfl, rfl, rfl, by decide +kernel, rfl, by decide +kernel, by decide +kernel⟩
theorem ok_lesser (D : DefT K mg "lesser_sum" sLesser ["size", "gaps", "mark"] c) (TB : GxR.TabB base mg c PA) (hT : PA ∈ T) (B : Blt mg) (B2 : Blt2 mg) : Callee P w K mg base 2 "lesser_sum" ["size", "gaps", "mark"] (spLesser T K) := by
  refine D.ok scLesser (fun vs H Q E h => ?_) (fun f A outer s H vs Q E hr h => ?_)
  · obtain ⟨m, k, p, gs, rfl, _⟩ := h
    rfl
  · obtain ⟨m, k, p, gs, rfl, hS, ht, hg, hk0, hkm, hmx, q⟩ := h
    have nd3 : (["gap", "size", "mark"] : List Str).Nodup := by decide +kernel
    refine ⟨_, pss_one (ps_ret (pe_sumG (k := 0) (tn := 1) (js := [0, 2]) (N := ["gap", "size", "mark"]) (g := gName 0) hr (by rfl) B.sum TB rfl (gsc_by (sc := defScope sLesser) (XN := ["size", "gaps", "mark"]) rfl rfl (by decide +kernel)) (pv 1)
      (fun _ _ _ _ _ _ _ _ => pg_name (i := 0) nd3 rfl (.inl rfl))
      (fun _ _ _ _ _ _ _ _ hr' => pe_callB (call_min2 rfl) (by rfl) B2.min PyProof.Rows.boot_min (pa_cons (pe_op op_mulB (pe_op op_sub (pv 1) (pv 2)) (pv 0)) (pa_cons (pe_op op_mulB (pv 2) (pe_op op_sub (pv 1) (pv 0))) pa_nil))))), ?_⟩
    refine ⟨_, rfl, p, _, rfl, hS, ht PA hT, fun H2 s2 => ?_⟩
    refine ⟨fun ys σ' H' => (∃ x, σ' = [x, some (.int m), some (.int k)]) ∧ Same H H' ∧ ys = ((gs.map (least m k)).take ys.length).map V.int, gs.map (least m k), by rw [List.length_map, List.length_map], ⟨⟨none, rfl⟩, s2, rfl⟩, fun ys σ' H' h => h.2.1.seq hS, fun ys σ' H' h => h.2.2, ?_, ?_⟩
    · rintro ys x σ' H' hx ⟨⟨x0, rfl⟩, s', hy⟩
      obtain ⟨g, hg', rfl⟩ := map_at hx
      obtain ⟨g0, g1⟩ := hg g (List.mem_of_getElem? hg')
      have small : ∀ z : Int, 0 ≤ z → z ≤ m → Builtin.Int.intBits z ≤ 200 := fun z h0 h => small_of h0 (Int.lt_of_le_of_lt h hmx)
      have hmul : ∀ y z : Int, 0 ≤ y → y ≤ m → 0 ≤ z → z ≤ m → CMulB y z := fun y z a b c d => IntMulOk.of_le (small y a b) (small z c d) (by decide)
      refine ⟨_, rfl, _, rfl, m, k, rfl, rfl, _, rfl, m - k, g, rfl, rfl, hmul _ _ (by omega) (by omega) g0 (by omega), _, rfl, _, rfl, _, rfl, m, g, rfl, rfl, k, _, rfl, rfl, hmul _ _ hk0 hkm (by omega) (by omega), _, _, rfl, ⟨_, rfl⟩, s', ?_⟩
      have e : (gs.map (least m k))[ys.length]? = some (least m k g) := by rw [List.getElem?_map, hg']; rfl
      rw [List.length_append]
      show ys ++ [V.int (if k * (m - g) < (m - k) * g then k * (m - g) else (m - k) * g)] = ((gs.map (least m k)).take (ys.length + 1)).map V.int
      rw [take_snoc e, List.map_append, ← hy, min_if]
      rfl
    · rintro ys σ' H' hl ⟨_, s', hy⟩
      exact q H' s'
end
end DR
namespace DR
open PySem PySem.Spec PyProof.Rows L2
/-! ### answers -/
/-- what the walk asks of the class Best at C -/
structure BestCls (K : PySem.W.Frag) (mg : Str → Option Value) (C : Addr) : Prop where
  cl : Cls K C
  nD : NoAttr K C "deeds"
  nM : NoAttr K C "mark"
  g : mg "Best" = some (.ref C)
  ha : PySem.W.findIn K (.ref C) "__class__" = some (some (.builtin "object.__class__"))
  hn : PySem.W.specialIn K (.builtin "object.__class__") "__get__" = some (some (.builtin "getset_descriptor.__get__"))
  htk : PySem.W.takesIn K (.builtin "object.__class__") = some true
  hm : PySem.W.mroIn K C (.type "object") = some true
/-- an answer stands at x: its deeds are the list at p, its mark is k -/
structure BestAt (C : Addr) (H : Hp) (x p : Addr) (as : List Addr) (ds : List Deed) (k : Int) : Prop where
  ob : ∃ dx fs, H x = some (.ins C dx fs) ∧ fs.lookup ("deeds" : Str) = some (.ref p) ∧ fs.lookup ("mark" : Str) = some (.int k) ∧ fs.lookup ("shows" : Str) = none
  lst : H p = some (.lst (as.map V.ref))
  tups : DsAt H as ds
theorem BestAt.same {C : Addr} {H H' : Hp} {x p : Addr} {as : List Addr} {ds : List Deed} {k : Int} (h : BestAt C H x p as ds k) (s : Same H H') : BestAt C H' x p as ds k := by
  obtain ⟨⟨dx, fs, e, r⟩, l, t⟩ := h
  exact ⟨⟨dx, fs, s _ _ e, r⟩, s _ _ l, t.same s⟩
theorem BestAt.ty {K : PySem.W.Frag} {mg : Str → Option Value} {C : Addr} {H : Hp} {x p : Addr} {as : List Addr} {ds : List Deed} {k : Int} (T : BestCls K mg C) (h : BestAt C H x p as ds k) : TyX K H (.ref x) (.ref C) := by
  obtain ⟨dx, fs, e, _⟩ := h.ob
  exact .base (.ins e T.cl T.ha T.hn T.htk T.hm)
/-- the list of deeds has one more -/
theorem BestAt.more {C : Addr} {H : Hp} {x p t : Addr} {as : List Addr} {ds : List Deed} {k : Int} {d : Deed} (h : BestAt C H x p as ds k) (ht : H t = some (.tup (tri d))) : BestAt C (upd H p (.lst ((as ++ [t]).map V.ref))) x p (as ++ [t]) (ds ++ [d]) k := by
  obtain ⟨⟨dx, fs, e, r⟩, l, tp⟩ := h
  refine ⟨⟨dx, fs, by rw [upd_ne (ne_of e l (by intro q; cases q))]; exact e, r⟩, upd_same, ?_⟩
  exact (tp.upd l).snoc (by rw [upd_ne (ne_of ht l (by intro q; cases q))]; exact ht)
/-! ### small numbers -/
def SmallD (ds : List Deed) : Prop := ds.length ≤ 5000 ∧ ∀ d ∈ ds, Builtin.Int.intBits d.1 ≤ 1000 ∧ Builtin.Int.intBits d.2.1 ≤ 1000 ∧ Builtin.Int.intBits d.2.2 ≤ 1000
theorem ab_nonneg (x : Int) : 0 ≤ ab x := by unfold ab; split <;> omega
theorem steps_le {N : Int} : ∀ {ds : List Deed}, (∀ d ∈ ds, ab d.2.2 ≤ N) → 0 ≤ N → steps ds ≤ N * ds.length
  | [], _, _ => by show (0 : Int) ≤ N * 0; omega
  | d :: r, h, h0 => by
    have ih := steps_le (N := N) (ds := r) (fun x hx => h x (List.mem_cons_of_mem _ hx)) h0
    have h1 := h d List.mem_cons_self
    rw [steps_cons, List.length_cons]
    have : N * ((r.length + 1 : Nat) : Int) = N * (r.length : Int) + N := by rw [Int.natCast_add, Int.mul_add]; omega
    omega
theorem steps_nonneg : ∀ ds : List Deed, 0 ≤ steps ds
  | [] => Int.le_refl _
  | d :: r => by
    rw [steps_cons]
    have := ab_nonneg d.2.2
    have := steps_nonneg r
    omega
theorem SmallD.bits {ds : List Deed} (h : SmallD ds) : Builtin.Int.intBits (steps ds) ≤ 1000000 := by
  have h1 : ∀ d ∈ ds, ab d.2.2 ≤ 2 ^ 1000 := by
    intro d hd
    have := (intBits_le_iff.mp (h.2 d hd).2.2)
    have e : ((2 ^ 1000 : Nat) : Int) = (2 : Int) ^ 1000 := Int.natCast_pow 2 1000
    rw [← e]
    unfold ab
    split <;> omega
  have p0 : (0 : Int) ≤ 2 ^ 1000 := by decide
  have h2 := steps_le h1 p0
  have h3 : (2 : Int) ^ 1000 * (ds.length : Int) ≤ 2 ^ 1000 * 5000 := Int.mul_le_mul_of_nonneg_left (by have := h.1; omega) p0
  have h4 : (2 : Int) ^ 1000 * 5000 < 2 ^ 1100 := by decide +kernel
  exact Nat.le_trans (small_of (n := 1100) (steps_nonneg ds) (by omega)) (by decide)
theorem mem_steps : ∀ {ds : List Deed} {d : Deed}, d ∈ ds → ab d.2.2 ≤ steps ds
  | e :: r, d, h => by
    rw [steps_cons]
    have a := ab_nonneg e.2.2
    have b := steps_nonneg r
    rcases List.mem_cons.mp h with q | q
    · rw [q]; omega
    · have := mem_steps q; omega
theorem cost_mod_le {m : Int} (hm : 0 < m) : ∀ r : List Int, cost (r.map (· % m)) ≤ m * r.length
  | [] => by show (0 : Int) ≤ m * 0; omega
  | x :: r => by
    have ih := cost_mod_le hm r
    have h1 := Int.emod_lt_of_pos x hm
    have h0 := Int.emod_nonneg x (show m ≠ 0 by omega)
    rw [List.map_cons, cost_cons, List.length_cons]
    have : m * ((r.length + 1 : Nat) : Int) = m * (r.length : Int) + m := by rw [Int.natCast_add, Int.mul_add]; omega
    have e : pos (x % m) = x % m := by unfold pos; rw [if_pos h0]
    omega
theorem bound_small {m k : Int} (hm : 0 < m) (h0 : 0 ≤ k) (h1 : k ≤ m) : ∀ g : List Int, (∀ x ∈ g, 0 ≤ x ∧ x < m) → bound m k g ≤ m * (m * g.length)
  | [], _ => by show (0 : Int) ≤ m * (m * 0); omega
  | x :: g, h => by
    have ih := bound_small hm h0 h1 g fun y hy => h y (List.mem_cons_of_mem _ hy)
    obtain ⟨x0, x1⟩ := h x List.mem_cons_self
    rw [bound_cons, List.length_cons]
    have a : least m k x ≤ m * m := by
      unfold least
      have := Int.min_le_left ((m - k) * x) (k * (m - x))
      have b : (m - k) * x ≤ m * x := Int.mul_le_mul_of_nonneg_right (by omega) x0
      have c : m * x ≤ m * m := Int.mul_le_mul_of_nonneg_left (by omega) (by omega)
      omega
    have : m * (m * ((g.length + 1 : Nat) : Int)) = m * (m * (g.length : Int)) + m * m := by
      rw [Int.natCast_add, Int.mul_add, Int.mul_add]; congr 1
      show m * (m * 1) = m * m
      rw [Int.mul_one]
    omega
/-- what is right takes few steps -/
theorem Right.small {m : Int} {a b : List Int} {ds : List Deed} {k : Int} (hm : 0 < m) (hmx : m < 2 ^ 200) (hl : a.length ≤ 1000) (hd : ds.length ≤ 2000) (h : Right m a b ds k) : SmallD ds := by
  obtain ⟨h1, h2, h3, h4, h5⟩ := h
  refine ⟨by omega, fun d hd => ?_⟩
  have hlen : a.length = b.length := by rw [← h2, behind_length]
  obtain ⟨g1, g2, g3, g4⟩ := h1 d hd
  have q := bound_small (g := (raw a b).map (· % m)) hm h3 h4 fun x hx => by
    obtain ⟨y, _, e⟩ := List.mem_map.mp hx
    rw [← e]
    exact ⟨Int.emod_nonneg _ (by omega), Int.emod_lt_of_pos _ hm⟩
  rw [← h5, List.length_map, raw_length hlen] at q
  have q2 := Int.le_of_mul_le_mul_left q hm
  have q3 : m * ((a.length + 1 : Nat) : Int) ≤ m * 1001 := Int.mul_le_mul_of_nonneg_left (by omega) (by omega)
  have q4 := mem_steps hd
  have p : (2 : Int) ^ 200 * 1001 < 2 ^ 250 := by decide +kernel
  have q5 : m * 1001 ≤ 2 ^ 200 * 1001 := by omega
  have small : ∀ x : Int, ab x < 2 ^ 250 → Builtin.Int.intBits x ≤ 1000 := by
    intro x hx
    have : Builtin.Int.intBits x ≤ 250 := by
      rw [intBits_le_iff]
      have e : ((2 ^ 250 : Nat) : Int) = (2 : Int) ^ 250 := Int.natCast_pow 2 250
      rw [← e] at hx
      unfold ab at hx
      split at hx <;> omega
    omega
  have p2 : (1000 : Int) < 2 ^ 250 := by decide +kernel
  refine ⟨small _ ?_, small _ ?_, small _ (by omega)⟩
  · unfold ab; split <;> omega
  · unfold ab; split <;> omega
theorem SmallD.append {ds es : List Deed} (h : SmallD ds) (k : SmallD es) (hl : ds.length + es.length ≤ 5000) : SmallD (ds ++ es) :=
  ⟨by rw [List.length_append]; exact hl, fun d hd => (List.mem_append.mp hd).elim (h.2 d) (k.2 d)⟩
/-! ### what the program's defs promise -/
/-- rows of a size, asked together -/
structure Asked (Tb : List Addr) (K : PySem.W.Frag) (H : Hp) (m : Int) (a b : Addr) (xs ys : List Int) : Prop where
  one : SqL K H a (xs.map V.int)
  other : SqL K H b (ys.map V.int)
  len : xs.length = ys.length
  few : xs.length ≤ 1000
  two : 2 ≤ m
  big : m < 2 ^ 200
  rone : RowOk m xs
  rother : RowOk m ys
  tab : Tabs Tb H
theorem Asked.same {Tb : List Addr} {K : PySem.W.Frag} {H H' : Hp} {m : Int} {a b : Addr} {xs ys : List Int} (h : Asked Tb K H m a b xs ys) (s : Same H H') : Asked Tb K H' m a b xs ys := ⟨s.seq h.one, s.seq h.other, h.len, h.few, h.two, h.big, h.rone, h.rother, h.tab.same s⟩
theorem RowOk.drop {m : Int} {xs : List Int} (h : RowOk m xs) (n : Nat) : RowOk m (xs.drop n) := fun x hx => h x (List.mem_of_mem_drop hx)
theorem RowOk.take {m : Int} {xs : List Int} (h : RowOk m xs) (n : Nat) : RowOk m (xs.take n) := fun x hx => h x (List.mem_of_mem_take hx)
theorem RowOk.reverse {m : Int} {xs : List Int} (h : RowOk m xs) : RowOk m xs.reverse := fun x hx => h x (List.mem_reverse.mp hx)
theorem Callee.mono {P : Program} {w : World} {K : PySem.W.Frag} {mg : Str → Option Value} {base : Heap} {j k : Nat} {x : Str} {ps : List Str} {sp : Sp} (C : Callee P w K mg base j x ps sp) (h : j ≤ k) : Callee P w K mg base k x ps sp := by
  obtain ⟨f, fd, h1, h2, h3, lk, h4⟩ := C
  exact ⟨f, fd, h1, h2, h3, lk, h4.mono h⟩
def spBest (Tb : List Addr) (K : PySem.W.Frag) (C : Addr) : Sp := fun vs H Q _ => ∃ (m : Int) (a b : Addr) (xs ys : List Int), vs = [.int m, .ref a, .ref b] ∧ Asked Tb K H m a b xs ys ∧
  ∀ H' x p as ds k, Same H H' → H x = none → H p = none → BestAt C H' x p as ds k → Right m xs ys ds k → ds.length ≤ 2000 → Q (.ref x) H'
def spApart (Tb : List Addr) (K : PySem.W.Frag) : Sp := fun vs H Q _ => ∃ (m : Int) (a b : Addr) (xs ys : List Int), vs = [.int m, .ref a, .ref b] ∧ Asked Tb K H m a b xs ys ∧
  ∀ H' v, Same H H' → (∃ ds k, Right m xs ys ds k ∧ steps ds = v) → Q (.int v) H'
theorem far_few {m v : Int} {xs ys : List Int} (hm : 0 < m) (h : ∃ ds k, Right m xs ys ds k ∧ steps ds = v) : Fewest m (raw xs ys) v := by
  obtain ⟨ds, k, h1, h2⟩ := h
  rw [← h2]
  exact h1.fewest hm
def spLevel (Tb : List Addr) (K : PySem.W.Frag) (C : Addr) : Sp := fun vs H Q _ => ∃ (m : Int) (a : Addr) (xs : List Int), vs = [.int m, .ref a] ∧ SqL K H a (xs.map V.int) ∧ xs.length ≤ 1000 ∧ 2 ≤ m ∧ m < 2 ^ 200 ∧ RowOk m xs ∧ Tabs Tb H ∧
  ∀ H' x p as ds k, Same H H' → H x = none → H p = none → BestAt C H' x p as ds k → Right m xs (List.replicate xs.length (xs.headD 0)) ds k → ds.length ≤ 2000 → Q (.ref x) H'
def spShows (Tb : List Addr) (K : PySem.W.Frag) (C : Addr) : Sp := fun vs H Q _ => ∃ (x : Addr) (m : Int) (a b p : Addr) (as : List Addr) (ds : List Deed) (k : Int) (xs ys : List Int), vs = [.ref x, .int m, .ref a, .ref b] ∧ BestAt C H x p as ds k ∧ Asked Tb K H m a b xs ys ∧
  SmallD ds ∧ Builtin.Int.intBits k ≤ 1000 ∧ ∀ H', Same H H' → Q (.bl (decide (Right m xs ys ds k))) H'
/-- the method m of the class at C keeps the promise sp -/
def CalleeM (P : Program) (w : World) (K : PySem.W.Frag) (mg : Str → Option Value) (base : Heap) (k : Nat) (C : Addr) (m : Str) (ps : List Str) (sp : Sp) : Prop :=
  Cls K C ∧ ∃ f fd, Meth K C m f ∧ Binds K fd ps [] ∧ FnOk P w K mg base CX0 k f fd ps sp
theorem pe_m {X : Cx} {k : Nat} {C : Addr} {m : Str} {ps : List Str} {sp : Sp} {o e : Expr} {es : List Expr} {apos pos : Pos} {ta : TE} {t : TA} {pl : Sem Bool} (G : CalleeM X.prog X.w X.K X.mg X.base k C m ps sp) (hr : Room k X.A) (he : PE X o ta) (ha : PA X (e :: es) t)
    (hst : starEach (e :: es) X.env = (false, eval e X.env) :: starEach es X.env := by rfl) (hpl : (backTo pos (starEach es X.env)).any (·.1) = false := by rfl)
    (ht : eval (.Call (.Attribute o m apos) (e :: es) [] pos) X.env = (do
      let ov ← eval o X.env
      standAt apos.atName
      let (f, first) ← holding [ov] (getMethod ov m pl)
      callWith pos f first (backTo pos (starEach (e :: es) X.env)) (backToKw pos (keywordEach [] X.env))) := by rfl) :
    PE X (.Call (.Attribute o m apos) (e :: es) [] pos) (tMeth C m sp [] E0 ta t) := by
  obtain ⟨cl, f, fd, hm, hb, F⟩ := G
  exact pe_meth he cl hm F hr hb .nil pass0 ha hst hpl ht
/-! ### a class that is made -/
def Makes (P : Program) (w : World) (K : PySem.W.Frag) (mg : Str → Option Value) (base : Heap) (k : Nat) (C : Addr) (ps : List Str) (sp : Sp) : Prop := ∃ f fd, Mk K C f ∧ Binds K fd ps [] ∧ FnOk P w K mg base CX0 k f fd ps sp
theorem pe_k {X : Cx} {k : Nat} {C : Addr} {x : Str} {ps : List Str} {sp : Sp} {p pos : Pos} {e : Expr} {es : List Expr} {t : TA} (G : Makes X.prog X.w X.K X.mg X.base k C ps sp) (hr : Room (k + 1) X.A) (hg : Gl X x) (hm : X.mg x = some (.ref C)) (ha : PA X (e :: es) t)
    (hdb : (x == ("__debug__" : Str)) = false := by decide) (he : starEach (e :: es) X.env = (false, eval e X.env) :: starEach es X.env := by rfl) (hpl : (backTo pos (starEach es X.env)).any (·.1) = false := by rfl) : PE X (.Call (.Name x p) (e :: es) [] pos) (tMake C sp [] E0 t) := by
  obtain ⟨f, fd, M, hb, F⟩ := G
  exact pe_make M F hr hg hm hb .nil pass0 ha hdb he hpl
def spInit (K : PySem.W.Frag) (C : Addr) : Sp := fun vs H Q _ => ∃ (x p dx : Addr) (as : List Addr) (ds : List Deed) (k : Int), vs = [.ref x, .ref p, .int k] ∧ H x = some (.ins C dx []) ∧ SqL K H p (as.map V.ref) ∧ DsAt H as ds ∧ ds.length ≤ 6000 ∧
  ∀ H' p' as', (∀ b u, b ≠ x → H b = some u → H' b = some u) → H p' = none → BestAt C H' x p' as' ds k → Q .non H'
theorem CalleeM.mono {P : Program} {w : World} {K : PySem.W.Frag} {mg : Str → Option Value} {base : Heap} {j k : Nat} {C : Addr} {m : Str} {ps : List Str} {sp : Sp} (G : CalleeM P w K mg base j C m ps sp) (h : j ≤ k) : CalleeM P w K mg base k C m ps sp := by
  obtain ⟨c, f, fd, h1, h2, h3⟩ := G
  exact ⟨c, f, fd, h1, h2, h3.mono h⟩
theorem Makes.mono {P : Program} {w : World} {K : PySem.W.Frag} {mg : Str → Option Value} {base : Heap} {j k : Nat} {C : Addr} {ps : List Str} {sp : Sp} (G : Makes P w K mg base j C ps sp) (h : j ≤ k) : Makes P w K mg base k C ps sp := by
  obtain ⟨f, fd, h1, h2, h3⟩ := G
  exact ⟨f, fd, h1, h2, h3.mono h⟩
theorem Same.past {H1 H3 H4 : Hp} {x : Addr} (w : Same H1 H3) (nx : H1 x = none) (k : ∀ b u, b ≠ x → H3 b = some u → H4 b = some u) : Same H1 H4 := by
  refine ⟨fun b o n e => k b o (fun z => by rw [z, nx] at e; cases e) (w.keep b o n e), fun b ps e => ?_⟩
  obtain ⟨m, e2, t⟩ := w.tab b ps e
  exact ⟨m, k b _ (fun z => by rw [z, nx] at e; cases e) e2, t⟩
end DR
namespace DR
open PySem PySem.Spec PyProof.Rows L2
/-- a method of the text stands where the class says -/
def DefM (K : PySem.W.Frag) (x qual : Str) (st : Stmt) (ps : List Str) (f : Addr) : Prop := ∃ fd, Fun K x qual st f fd ∧ Binds K fd ps []
theorem defM_mk {K : PySem.W.Frag} {x qual : Str} {st : Stmt} {ps : List Str} {f : Addr} {oc : Value} {od an : Option Addr} {osl : Array (Option Value)} {kV doc pm cdv ct : Value} (l : K.lookup f = some ⟨oc, od, .func (PySem.W.fnOf x qual (defArgs st) (defBody st) (defScope st) .none kV doc pm an cdv ct), osl⟩)
    (c : PySem.W.codeIn K cdv qual = true) (k : PySem.W.keepIn K (.ref f) = true)
    (hb : ∀ (kV doc pm : Value) (an : Option Addr) (cdv ct : Value) (us : List Value), us.length = ps.length → bindArgs (PySem.W.fnOf x qual (defArgs st) (defBody st) (defScope st) .none kV doc pm an cdv ct) ⟨us, []⟩ = pure (ps.zip us)) : DefM K x qual st ps f := ⟨_, fun_mk l c k, (fun_mk l c k).binds hb⟩
theorem gaps_ok {m : Int} (hm : 0 < m) {xs ys : List Int} : ∀ g ∈ (raw xs ys).map (· % m), 0 ≤ g ∧ g < m := fun g hg => by
  obtain ⟨y, _, e⟩ := List.mem_map.mp hg
  rw [← e]
  exact ⟨Int.emod_nonneg _ (by omega), Int.emod_lt_of_pos _ hm⟩
section
variable {P : Program} {w : World} {K : PySem.W.Frag} {mg : Str → Option Value} {base : Heap} {Tb : List Addr} {C f : Addr}
theorem scInit : FnScope ["self", "deeds", "mark"] ["self", "deeds", "mark"] (defScope cBest_init) := ⟨rfl, rfl, rfl, by decide +kernel, rfl, by decide +kernel, by decide +kernel⟩
theorem ok_init (D : DefM K "__init__" "Best.__init__" cBest_init ["self", "deeds", "mark"] f) (M : Mk K C f) (B : Blt mg) (T : BestCls K mg C) : Makes P w K mg base 1 C ["self", "deeds", "mark"] (spInit K C) := by
  obtain ⟨fd, F, b⟩ := D
  refine ⟨f, fd, M, b, F.ok scInit (fun vs H Q E h => ?_) (fun cdv A outer s H vs Q E hr h => ?_)⟩
  · obtain ⟨x, p, dx, as, ds, k, rfl, _⟩ := h
    rfl
  · obtain ⟨x, p, dx, as, ds, k, rfl, hx, hP, hD, hdl, q⟩ := h
    refine ⟨_, pss_cons (ps_fld (pv 0) (pe_callTy call_list_of (by rfl) B.list PyProof.Rows.boot_list (pa_cons (pv 1) pa_nil)) rfl) (pss_one (ps_fld (pv 0) (pv 2) rfl)), ?_⟩
    refine ⟨_, rfl, p, _, rfl, .inl hP, fun l hl => ?_⟩
    have hxl : x ≠ l := ne_of_none hx hl
    refine ⟨_, rfl, x, C, dx, [], rfl, by rw [upd_ne hxl]; exact hx, T.cl, T.nD, by decide, ?_⟩
    refine ⟨_, rfl, _, rfl, x, C, dx, _, rfl, upd_same, T.cl, T.nM, (show (1 : Nat) < 1000 by decide), ?_⟩
    refine q _ l as (fun b u hb e => ?_) hl ⟨⟨dx, _, upd_same, ?_, ?_, ?_⟩, ?_, ?_⟩
    · rw [upd_ne hb, upd_ne hb, upd_ne (ne_of_none e hl)]
      exact e
    · rw [lookup_putF, lookup_putF]
      rfl
    · rw [lookup_putF]
      rfl
    · rw [lookup_putF, lookup_putF]
      rfl
    · rw [upd_ne (Ne.symm hxl), upd_ne (Ne.symm hxl), upd_same]
    · refine ⟨hD.len, fun j a e => ?_⟩
      obtain ⟨d, h1, h2⟩ := hD.at_ j a e
      refine ⟨d, h1, ?_⟩
      have hax : a ≠ x := ne_of h2 hx (by intro z; cases z)
      rw [upd_ne hax, upd_ne hax, upd_ne (ne_of_none h2 hl)]
      exact h2
theorem scShows : FnScope ["self", "size", "one", "other"] ["self", "size", "one", "other"] (defScope cBest_shows) := ⟨rfl, rfl, rfl, by decide +kernel, rfl, by decide +kernel, by decide +kernel⟩
theorem ok_shows (D : DefM K "shows" "Best.shows" cBest_shows ["self", "size", "one", "other"] f) (M : Meth K C "shows" f) (B : Blt mg) (T : BestCls K mg C) (GA : Callee P w K mg base 4 "are_deeds" ["dials", "things"] (spAre Tb K)) (GT : Callee P w K mg base 6 "turned" ["size", "row", "deeds"] (spTurned Tb K))
    (GS : Callee P w K mg base 2 "steps_of" ["deeds"] (spSteps Tb K)) (GG : Callee P w K mg base 1 "gaps_between" ["size", "one", "other"] (spGaps K)) (GL : Callee P w K mg base 2 "lesser_sum" ["size", "gaps", "mark"] (spLesser Tb K)) :
    CalleeM P w K mg base 7 C "shows" ["self", "size", "one", "other"] (spShows Tb K C) := by
  obtain ⟨fd, F, b⟩ := D
  refine ⟨T.cl, f, fd, M, b, F.ok scShows (fun vs H Q E h => ?_) (fun cdv A outer s H vs Q E hr h => ?_)⟩
  · obtain ⟨x, m, a, b, p, as, ds, k, xs, ys, rfl, _⟩ := h
    rfl
  · obtain ⟨x, m, a, b, p, as, ds, k, xs, ys, rfl, hB, hK, hsm, hkb, q⟩ := h
    have hr4 : Room 4 _ := hr.mono (by decide)
    have hr2 : Room 2 _ := hr.mono (by decide)
    have hr1 : Room 1 _ := hr.mono (by decide)
    refine ⟨_, pss_cons (ps_if (PW.pt (pw_or (pt_not (pt_val (pe_c GA hr4 (by rfl) (pa_cons (pe_callB call_len_seq (by rfl) B.len PySem.boot_len (pa_cons (pv 2) pa_nil)) (pa_cons (pe_fld (pv 0) rfl) pa_nil)))))
        (pw_or1 (pt_cmpR (op_neD hr.units) (pe_c GT hr (by rfl) (pa_cons (pv 1) (pa_cons (pv 2) (pa_cons (pe_fld (pv 0) rfl) pa_nil)))) (pv 3) (nomark _))))) (pss_one (ps_ret pe_bl)) pss_nil)
      (pss_cons (ps_if (PW.pt (pw_or (pt_cmpR op_lt (pe_fld (pv 0) rfl) pe_int (nomark _)) (pw_or1 (pt_cmpR op_gt (pe_fld (pv 0) rfl) (pv 1) (nomark _))))) (pss_one (ps_ret pe_bl)) pss_nil)
      (pss_one (ps_ret (pe_cmpR op_eq (pe_op op_mulB (pv 1) (pe_c GS hr2 (by rfl) (pa_cons (pe_fld (pv 0) rfl) pa_nil)))
        (pe_c GL hr2 (by rfl) (pa_cons (pv 1) (pa_cons (pe_c GG hr1 (by rfl) (pa_cons (pv 1) (pa_cons (pv 2) (pa_cons (pv 3) pa_nil)))) (pa_cons (pe_fld (pv 0) rfl) pa_nil)))) (nomark _))))), ?_⟩
    have hm : 0 < m := by have := hK.two; omega
    have no : ∀ {H' : Hp}, Same H H' → ¬ Right m xs ys ds k → Q (.bl false) H' := fun {H'} s h => by
      have := q H' s
      rw [decide_eq_false h] at this
      exact this
    -- the fields, in any later heap
    have fD : ∀ {H' : Hp}, Same H H' → ∃ dx fs, H' x = some (.ins C dx fs) ∧ fs.lookup ("deeds" : Str) = some (.ref p) ∧ fs.lookup ("mark" : Str) = some (.int k) := fun {H'} s => by
      obtain ⟨dx, fs, e, e1, e2, _⟩ := (hB.same s).ob
      exact ⟨dx, fs, e, e1, e2⟩
    obtain ⟨dx, fs, eX, eD, eM⟩ := fD (Same.refl H)
    refine ⟨_, rfl, a, _, rfl, .inl hK.one, _, rfl, x, C, dx, fs, _, rfl, eX, T.cl, T.nD, eD, ?_⟩
    refine ⟨_, p, _, _, rfl, SqL.of hB.lst, hK.tab, looked_of hB.tups, fun H1 s1 => ⟨_, rfl, ?_⟩⟩
    rw [deeds_all, List.length_map]
    by_cases hok : DeedsOk xs.length ds
    · rw [decide_eq_true hok]
      refine iteF ?_
      obtain ⟨dx1, fs1, eX1, eD1, eM1⟩ := fD s1
      have hB1 := hB.same s1
      refine ⟨_, rfl, _, rfl, _, rfl, x, C, dx1, fs1, _, rfl, eX1, T.cl, T.nD, eD1, ?_⟩
      refine ⟨m, a, p, xs, as, ds, rfl, (hK.same s1).one, SqL.of hB1.lst, hB1.tups, hK.two, hK.rone, hok, hK.few, (hK.same s1).tab, fun H2 r s2 hr0 hr2' => ?_⟩
      have t2 := s1.trans s2
      refine ⟨_, rfl, dI _, dI ys, dp_lst (SqL.of hr2'), dp_lst (hK.same t2).other, sh_dI _, sh_dI _, _, rfl, ?_⟩
      rw [eqv_dI]
      by_cases hb : behind m xs ds = ys
      · rw [decide_eq_true hb]
        refine iteF ?_
        obtain ⟨dx2, fs2, eX2, eD2, eM2⟩ := fD t2
        refine ⟨_, rfl, x, C, dx2, fs2, _, rfl, eX2, T.cl, T.nM, eM2, k, 0, rfl, rfl, _, rfl, ?_⟩
        by_cases h0 : k < 0
        · rw [decide_eq_true h0]
          exact iteT (iteT (no t2 fun z => by have := z.2.2.1; omega))
        · rw [decide_eq_false h0]
          refine iteF ⟨_, rfl, x, C, dx2, fs2, _, rfl, eX2, T.cl, T.nM, eM2, _, rfl, k, m, rfl, rfl, _, rfl, ?_⟩
          by_cases h1 : m < k
          · rw [decide_eq_true h1]
            exact iteT (no t2 fun z => by have := z.2.2.2.1; omega)
          · rw [decide_eq_false h1]
            refine iteF ?_
            have hB2 := hB.same t2
            refine ⟨_, rfl, _, rfl, x, C, dx2, fs2, _, rfl, eX2, T.cl, T.nD, eD2, p, as, ds, rfl, SqL.of hB2.lst, hB2.tups, (hK.same t2).tab, fun H3 s3 => ?_⟩
            have t3 := t2.trans s3
            refine ⟨m, _, rfl, rfl, IntMulOk.of_le (m := 200) (small_of (by omega) hK.big) hsm.bits (by decide), ?_⟩
            refine ⟨_, rfl, _, rfl, _, rfl, _, rfl, m, a, b, xs, ys, rfl, (hK.same t3).one, (hK.same t3).other, hK.len, hK.few, hm, fun H4 g s4 hg0 hg4 => ?_⟩
            have t4 := t3.trans s4
            obtain ⟨dx4, fs4, eX4, eD4, eM4⟩ := fD t4
            refine ⟨_, rfl, x, C, dx4, fs4, _, rfl, eX4, T.cl, T.nM, eM4, m, k, g, _, rfl, SqL.of hg4, (hK.same t4).tab, gaps_ok hm, by omega, by omega, hK.big, fun H5 s5 => ⟨rfl, ?_⟩⟩
            have e : decide (V.int (m * steps ds) = V.int (bound m k ((raw xs ys).map (· % m)))) = decide (Right m xs ys ds k) :=
              decide_eq_decide.mpr ⟨fun z => ⟨hok, hb, by omega, by omega, V.int.inj z⟩, fun z => congrArg V.int z.2.2.2.2⟩
            have := q H5 (t4.trans s5)
            rw [← e] at this
            exact this
      · rw [decide_eq_false hb]
        exact iteT (no t2 fun z => hb z.2.1)
    · rw [decide_eq_false hok]
      exact iteT (no s1 fun z => hok z.1)
end
end DR
namespace DR
open PySem PySem.Spec PyProof.Rows L2
/-- pairs of numbers in the heap -/
structure PsAt (H : Hp) (as : List Addr) (ps : List (Int × Int)) : Prop where
  len : as.length = ps.length
  at_ : ∀ (j : Nat) (a : Addr), as[j]? = some a → ∃ p, ps[j]? = some p ∧ H a = some (.tup [.int p.1, .int p.2])
section
variable {H H' : Hp} {as bs : List Addr} {ps qs : List (Int × Int)} {a : Addr} {p : Int × Int}
theorem PsAt.same (h : PsAt H as ps) (s : Same H H') : PsAt H' as ps := ⟨h.len, fun j a e => let ⟨d, h1, h2⟩ := h.at_ j a e; ⟨d, h1, s _ _ h2⟩⟩
theorem PsAt.nil : PsAt H [] [] := ⟨rfl, fun j a e => by simp at e⟩
theorem PsAt.snoc (h : PsAt H as ps) (e : H a = some (.tup [.int p.1, .int p.2])) : PsAt H (as ++ [a]) (ps ++ [p]) := by
  refine ⟨by rw [List.length_append, List.length_append, h.len]; rfl, fun j b q => ?_⟩
  by_cases hj : j < as.length
  · rw [List.getElem?_append_left hj] at q
    obtain ⟨d, h1, h2⟩ := h.at_ j b q
    exact ⟨d, by rw [List.getElem?_append_left (by rw [← h.len]; exact hj)]; exact h1, h2⟩
  · rw [List.getElem?_append_right (by omega)] at q
    have hj0 : j - as.length = 0 := by
      have := (List.getElem?_eq_some_iff.mp q).1
      simp at this
      omega
    rw [hj0] at q
    have eb : a = b := by simpa using q
    subst eb
    refine ⟨p, ?_, e⟩
    rw [List.getElem?_append_right (by rw [← h.len]; omega), ← h.len, hj0]
    rfl
theorem PsAt.upd {c : Addr} {xs : List V} {o : HO} (h : PsAt H as ps) (hc : H c = some (.lst xs)) : PsAt (upd H c o) as ps := ⟨h.len, fun j b e => let ⟨d, h1, h2⟩ := h.at_ j b e; ⟨d, h1, by rw [upd_ne (ne_of h2 hc (by intro q; cases q))]; exact h2⟩⟩
theorem PsAt.dropLast (h : PsAt H (as ++ [a]) (ps ++ [p])) : PsAt H as ps ∧ H a = some (.tup [.int p.1, .int p.2]) := by
  have hl : as.length = ps.length := by have := h.len; rw [List.length_append, List.length_append] at this; simp at this; exact this
  refine ⟨⟨hl, fun j b e => ?_⟩, ?_⟩
  · have hj := (List.getElem?_eq_some_iff.mp e).1
    obtain ⟨d, h1, h2⟩ := h.at_ j b (by rw [List.getElem?_append_left hj]; exact e)
    rw [List.getElem?_append_left (by omega)] at h1
    exact ⟨d, h1, h2⟩
  · obtain ⟨d, h1, h2⟩ := h.at_ as.length a (by rw [List.getElem?_append_right (Nat.le_refl _), Nat.sub_self]; rfl)
    rw [hl, List.getElem?_append_right (Nat.le_refl _), Nat.sub_self] at h1
    have e : p = d := by simpa using h1
    rw [e]
    exact h2
end
/-- what a pair in the heap says -/
def pairOf (H : Hp) : V → Int × Int
  | .ref t => (match H t with
    | some (.tup [.int i, .int j]) => (i, j)
    | _ => (0, 0))
  | _ => (0, 0)
theorem pairOf_at {H : Hp} {t : Addr} {i j : Int} (h : H t = some (.tup [.int i, .int j])) : pairOf H (.ref t) = (i, j) := by
  show (match H t with | some (.tup [.int i, .int j]) => (i, j) | _ => ((0 : Int), (0 : Int))) = _
  rw [h]
theorem pairs_of {H : Hp} {as : List Addr} {gs : List Int} (h : PsAt H as (pairs gs)) : (as.map V.ref).map (pairOf H) = pairs gs := by
  refine List.ext_getElem? fun i => ?_
  rw [List.getElem?_map, List.getElem?_map]
  cases e : as[i]? with
  | none =>
    have := List.getElem?_eq_none_iff.mp e
    rw [List.getElem?_eq_none (by rw [← h.len]; exact this)]
    rfl
  | some a =>
    obtain ⟨p, h1, h2⟩ := h.at_ i a e
    rw [h1]
    show some (pairOf H (.ref a)) = some p
    rw [pairOf_at h2]
def spLeast (K : PySem.W.Frag) : Sp := fun vs H Q _ => ∃ (m : Int) (p : Addr) (gs : List Int) (q : Nat), vs = [.int m, .ref p] ∧ SqL K H p (gs.map V.int) ∧ 0 < m ∧ m < 2 ^ 200 ∧ gs.sum = m * q ∧ gs.sum / m = (q : Int) ∧ q < gs.length ∧ gs.length ≤ 1001 ∧
  ∀ H' t c cs k, Same H H' → H c = none → H' t = some (.tup [.ref c, .int k]) → H' c = some (.lst (cs.map V.int)) → AllC m k gs cs → cs.sum = 0 → k ∈ gs → Q (.ref t) H'
section
variable {P : Program} {w : World} {K : PySem.W.Frag} {mg : Str → Option Value} {base : Heap}
abbrev NLeast : List Str := ["size", "gaps", "place", "gap", "ordered", "kept", "changes"]
theorem scLeast : FnScope NLeast ["size", "gaps"] (defScope sLeast) := ⟨rfl, rfl, rfl, by decide +kernel, rfl, by decide +kernel, by decide +kernel⟩
theorem ok_least (D : Def K mg "least_changes" sLeast ["size", "gaps"]) (B : Blt mg) (B3 : Blt3 mg) : Callee P w K mg base 1 "least_changes" ["size", "gaps"] (spLeast K) := by
  refine D.ok scLeast (fun vs H Q E h => ?_) (fun f cdv A outer s H vs Q E hr h => ?_)
  · obtain ⟨m, p, gs, q, rfl, _⟩ := h
    rfl
  · obtain ⟨m, p, gs, qn, rfl, hS, hm, hmx, hsum, hdiv, hqn, hgl, q⟩ := h
    refine ⟨_, pss_cons (ps_set (i := 4) scLeast.nd rfl (.inl rfl) (pe_callB cr_sortedPO (by rfl) B3.sorted (by decide +kernel) (pa_cons
        (pe_lc (own := [("place", 2), ("gap", 3)]) (g := gTup K 2 (gCons (gName 2) (gCons (gName 3) gNil))) (tt := tYes) rfl scLeast.nd (pi_enum (by rfl) B.enumerate (pa_cons (pv 1) pa_nil)) (blkOk_by (N := NLeast) (sc := defScope sLeast) (by decide +kernel))
          (fun _ _ _ _ _ => pg_tup (by rfl) (pgs_cons (pg_name (i := 2) scLeast.nd rfl (.inl rfl)) (pgs_cons (pg_name (i := 3) scLeast.nd rfl (.inl rfl)) pgs_nil))) (fun _ _ _ _ _ => pts_nil)
          (fun _ _ _ _ _ => pe_tup (pa_cons (pv 3) (pa_cons (pv 2) pa_nil)))) pa_nil)))
      (pss_cons (ps_set (i := 5) scLeast.nd rfl (.inl rfl) (pe_op op_sub (pe_callB call_len_seq (by rfl) B.len PySem.boot_len (pa_cons (pv 1) pa_nil)) (pe_op op_fdivW (pe_callB (cr_sum rfl) (by rfl) B.sum PyProof.Rows.boot_sum (pa_cons (pv 1) pa_nil)) (pv 0))))
      (pss_cons (ps_set (i := 6) scLeast.nd rfl (.inl rfl) (pe_callTy call_list_of (by rfl) B.list PyProof.Rows.boot_list (pa_cons (pv 1) pa_nil)))
      (pss_cons (ps_for PassesOwn.never rfl (pi_list (pe_slice sl_list (pv 4) (po_some (pv 5)) po_none)) (pg_tup (by rfl) (pgs_cons (pg_name (i := 3) scLeast.nd rfl (.inl rfl)) (pgs_cons (pg_name (i := 2) scLeast.nd rfl (.inl rfl)) pgs_nil)))
        (pss_one (ps_asg (pe_op op_sub (pv 3) (pv 0)) (pg_sub (pv 6) (pv 2) set_list))))
      (pss_one (ps_ret (pe_tup (pa_cons (pv 6) (pa_cons (pe_ix ix_tup (pe_ix ix_list (pv 4) (pe_op op_sub (pv 5) pe_int) (fun _ _ => rfl)) pe_int (fun _ _ => rfl)) pa_nil)))))))), ?_⟩
    -- the pairs
    refine ⟨_, rfl, p, _, rfl, hS, fun L hL => lc_it (walk_enum (K := K) (a := p) (xs := gs.map V.int)) (fun i H2 => Same H H2 ∧ ∃ as, H2 L = some (.lst (as.map V.ref)) ∧ PsAt H2 as ((pairs gs).take i)) ⟨same_new hL, [], upd_same, PsAt.nil⟩ (fun i H2 _ h => h.1.seq hS) ?_ ?_⟩
    · rintro i x H2 H3 hi ⟨sm, as, hL2, hp2⟩ ⟨U, u, v, rfl, nU, rfl, hu, hv⟩
      obtain ⟨g, hg, rfl⟩ := map_at hv
      cases hu
      have sU : Same H2 (upd H2 U (.tup [.int ((i : Nat) : Int), .int g])) := same_new nU
      refine ⟨U, _, rfl, .inl (.inl upd_same), rfl, _, _, rfl, _, _, rfl, rfl, rfl, ?_⟩
      refine ⟨_, rfl, _, rfl, (by show 2 ≤ sizeLine; decide), fun t ht => ?_⟩
      have sT := same_new (o := .tup [.int g, .int ((i : Nat) : Int)]) ht
      have hL4 := sT _ _ (sU _ _ hL2)
      refine ⟨_, hL4, ?_, smut ((sm.trans sU).trans sT) hL, as ++ [t], ?_, ?_⟩
      · rw [List.length_map, hp2.len, List.length_take]
        have := at_lt hg
        exact line_lt (by omega)
      · rw [upd_same, List.map_append]; rfl
      · have e : (pairs gs)[i]? = some (g, (i : Int)) := by
          unfold pairs
          rw [List.getElem?_mapIdx, hg]
          rfl
        rw [take_snoc e]
        exact PsAt.snoc (((hp2.same sU).same sT).upd hL4) (by rw [upd_ne (ne_of upd_same hL4 (by intro z; cases z)), upd_same])
    · rintro H3 ⟨s3, as, hL3, hp3⟩
      have hpl : (pairs gs).length = gs.length := by unfold pairs; rw [List.length_mapIdx]
      rw [List.take_of_length_le (by rw [List.length_map, hpl]; exact Nat.le_refl _)] at hp3
      refine ⟨L, _, pairOf H3, rfl, SqL.of hL3, fun x hx => ?_, fun ys O hsd hst hO => ?_⟩
      · obtain ⟨t, ht, rfl⟩ := List.mem_map.mp hx
        obtain ⟨j, hj⟩ := List.mem_iff_getElem?.mp ht
        obtain ⟨pr, h1, h2⟩ := hp3.at_ j t hj
        exact ⟨t, rfl, by rw [pairOf_at h2]; exact h2⟩
      have hord : Ord gs (ys.map (pairOf H3)) := by
        refine ⟨by rw [← pairs_of hp3]; exact hst.perm.map _, ?_⟩
        rw [List.pairwise_map]
        refine List.Pairwise.imp (fun {x y} h => ?_) hsd
        have := SrtO.lexB_no.mp h
        omega
      have hys : ∀ y ∈ ys, ∃ t, y = V.ref t ∧ H3 t = some (.tup [.int (pairOf H3 y).1, .int (pairOf H3 y).2]) := fun y hy => by
        obtain ⟨t, ht, rfl⟩ := List.mem_map.mp (hst.perm.mem_iff.mp hy)
        obtain ⟨j, hj⟩ := List.mem_iff_getElem?.mp ht
        obtain ⟨pr, h1, h2⟩ := hp3.at_ j t hj
        exact ⟨t, rfl, by rw [pairOf_at h2]; exact h2⟩
      generalize ek : pairOf H3 = kf at hord hys
      have hyl : ys.length = gs.length := by have := hord.len; rw [List.length_map] at this; exact this
      have s4 : Same H3 (upd H3 O (.lst ys)) := same_new hO
      have hO4 : (upd H3 O (.lst ys)) O = some (.lst ys) := upd_same
      have t4 := s3.trans s4
      have hys4 : ∀ y ∈ ys, ∃ t, y = V.ref t ∧ (upd H3 O (.lst ys)) t = some (.tup [.int (kf y).1, .int (kf y).2]) := fun y hy => by
        obtain ⟨t, e, h⟩ := hys y hy
        exact ⟨t, e, s4 _ _ h⟩
      generalize upd H3 O (.lst ys) = H4 at t4 hO4 hys4
      -- how many are kept
      refine ⟨_, rfl, p, _, rfl, .inl (t4.seq hS), _, rfl, p, gs, rfl, t4.seq hS, _, rfl, _, m, rfl, rfl, wide_div (b := 200) hm (by omega) (by decide) (by decide), _, _, rfl, rfl, ?_⟩
      obtain ⟨kept, hkept⟩ : ∃ kept : Nat, kept + qn = gs.length := ⟨gs.length - qn, by omega⟩
      have ekept : (((gs.map V.int).length : Int) - gs.sum / m) = (kept : Int) := by rw [List.length_map, hdiv]; omega
      show gName 5 (V.int (((gs.map V.int).length : Int) - gs.sum / m)) _ _ _
      rw [ekept]
      -- changes
      refine ⟨_, rfl, p, _, rfl, .inl (t4.seq hS), fun c hc => ?_⟩
      have s5 : Same H4 (upd H4 c (.lst (gs.map V.int))) := same_new hc
      have hcH : H c = none := t4.free hc
      have hcO : O ≠ c := ne_of_none hO4 hc
      refine ⟨_, rfl, _, rfl, (kept : Int), rfl, O, _, rfl, SqL.of (s5 _ _ hO4), fun Z hZ => ?_⟩
      have s6 := same_new (o := .lst (cutV ys (some (kept : Int)) none)) hZ
      rw [cut_from] at s6 ⊢
      have hc6 : (upd (upd H4 c (.lst (gs.map V.int))) Z (.lst (ys.drop kept))) c = some (.lst (gs.map V.int)) := s6 _ _ upd_same
      have hZ6 : (upd (upd H4 c (.lst (gs.map V.int))) Z (.lst (ys.drop kept))) Z = some (.lst (ys.drop kept)) := upd_same
      have hcZ : Z ≠ c := ne_of_none (upd_same (H := H4) (a := c)) hZ |>.symm
      have t6 := (t4.trans s5).trans s6
      have hO6 := s6 _ _ (s5 _ _ hO4)
      have hys6 : ∀ y ∈ ys, ∃ t, y = V.ref t ∧ t ≠ c ∧ (upd (upd H4 c (.lst (gs.map V.int))) Z (.lst (ys.drop kept))) t = some (.tup [.int (kf y).1, .int (kf y).2]) := fun y hy => by
        obtain ⟨t, e, h⟩ := hys4 y hy
        exact ⟨t, e, ne_of_none h hc, s6 _ _ (s5 _ _ h)⟩
      generalize upd (upd H4 c (.lst (gs.map V.int))) Z (.lst (ys.drop kept)) = H6 at hc6 hZ6 t6 hO6 hys6
      have hdl : (ys.drop kept).length = (tops (ys.map kf) kept).length := by unfold tops; rw [List.length_map, List.length_drop, List.length_drop, List.length_map]
      refine ⟨Z, rfl, ⟨_, SqL.of hZ6⟩, for_list (K := K) (a := Z) (xs := ys.drop kept)
        (fun i σ H7 => (∃ x2 x3, σ = [some (.int m), some (.ref p), x2, x3, some (.ref O), some (.int kept), some (.ref c)]) ∧ Same H H7 ∧ (∀ b o, b ≠ c → H6 b = some o → H7 b = some o) ∧ H7 c = some (.lst ((dropAt m gs ((tops (ys.map kf) kept).take i)).map V.int)))
        ⟨⟨none, none, rfl⟩, t6, fun _ _ _ e => e, by rw [List.take_zero, dropAt_nil]; exact hc6⟩ (fun i σ H7 _ h => SqL.of (h.2.2.1 _ _ hcZ hZ6)) ?_ ?_⟩
      · rintro i y σ H7 hi ⟨⟨x2, x3, rfl⟩, s7, k7, hc7⟩
        have hmem := List.mem_of_mem_drop (List.mem_of_getElem? hi)
        obtain ⟨t, rfl, htc, ht⟩ := hys6 y hmem
        obtain ⟨pl, hg, hpl2⟩ := pairs_mem.mp (hord.perm.mem_iff.mp (List.mem_map.mpr ⟨_, hmem, rfl⟩))
        have hpl' := (List.getElem?_eq_some_iff.mp hg).1
        refine ⟨t, _, rfl, .inl (.inl (k7 _ _ htc ht)), rfl, _, _, rfl, _, _, rfl, rfl, ?_⟩
        refine ⟨_, rfl, _, rfl, _, m, rfl, rfl, ?_⟩
        refine ⟨_, rfl, _, rfl, c, _, _, pl, rfl, (by rw [hpl2]), hc7, ?_, ?_⟩
        · exact ixN_nat (by rw [List.length_map, dropAt_length]; exact hpl')
        refine ⟨⟨_, _, rfl⟩, ?_, fun b o hb e => by rw [upd_ne hb]; exact k7 b o hb e, ?_⟩
        · exact smut s7 hcH
        · have htop : (tops (ys.map kf) kept)[i]? = some pl := by
            unfold tops
            rw [List.getElem?_map, ← List.map_drop, List.getElem?_map, hi]
            show some ((kf (V.ref t)).2.toNat) = _
            rw [hpl2]
            rfl
          rw [upd_same, take_snoc htop, ← dropAt_step hg, List.map_set]
      · rintro σ H7 ⟨⟨x2, x3, rfl⟩, s7, k7, hc7⟩
        rw [hdl, List.take_length] at hc7
        have hk0 : 0 < kept := by omega
        have hkl : kept - 1 < ys.length := by omega
        have hy := List.getElem?_eq_getElem hkl
        obtain ⟨t, et, htc, ht⟩ := hys6 _ (List.getElem_mem hkl)
        have hpk : (ys.map kf)[kept - 1]? = some (kf ys[kept - 1]) := by rw [List.getElem?_map, hy]; rfl
        have hcO' : O ≠ c := hcO
        refine ⟨_, rfl, _, rfl, _, rfl, (kept : Int), 1, rfl, rfl, O, _, _, ys[kept - 1], rfl, rfl, SqL.of (k7 _ _ hcO' hO6), at_of (j := kept - 1) (by omega) hy, t, _, 0, _, et, rfl, .inl (.inl (k7 _ _ htc ht)), atI_nat (j := 0) rfl, (by show 2 ≤ sizeLine; decide), fun r hr0 => ?_⟩
        have s8 := same_new (o := .tup [.ref c, .int (kf ys[kept - 1]).1]) hr0
        refine q _ r c (dropAt m gs (tops (ys.map kf) kept)) (kf ys[kept - 1]).1 (s7.trans s8) hcH upd_same (s8 _ _ hc7) (hord.all hk0 hpk) (hord.sum hkept hsum) ?_
        obtain ⟨j, hj, _⟩ := pairs_mem.mp (hord.perm.mem_iff.mp (List.mem_of_getElem? hpk))
        exact List.mem_of_getElem? hj
end
end DR
namespace DR
open PySem PySem.Spec PyProof.Rows L2
/-- the lists of deeds_over in the heap -/
structure OvH (H H2 : Hp) (d w : Addr) (das was : List Addr) (ds : List Deed) (ws : Owed) : Prop where
  same : Same H H2
  hd : H2 d = some (.lst (das.map V.ref))
  hw : H2 w = some (.lst (was.map V.ref))
  D : DsAt H2 das ds
  W : PsAt H2 was ws
section
variable {H H2 : Hp} {d w t : Addr} {das was : List Addr} {ds : List Deed} {ws : Owed}
theorem OvH.new (h : OvH H H2 d w das was ds ws) (ht : H2 t = none) {o : HO} : OvH H (upd H2 t o) d w das was ds ws :=
  have s : Same H2 (upd H2 t o) := same_new ht
  ⟨h.same.trans s, s _ _ h.hd, s _ _ h.hw, h.D.same s, h.W.same s⟩
theorem OvH.deed (h : OvH H H2 d w das was ds ws) (hdH : H d = none) (hdw : d ≠ w) {x : Deed} (ht : H2 t = some (.tup (tri x))) : OvH H (upd H2 d (.lst ((das ++ [t]).map V.ref))) d w (das ++ [t]) was (ds ++ [x]) ws :=
  ⟨smut h.same hdH, upd_same, by rw [upd_ne (Ne.symm hdw)]; exact h.hw, (h.D.upd h.hd).snoc (by rw [upd_ne (ne_of ht h.hd (by intro z; cases z))]; exact ht), h.W.upd h.hd⟩
theorem OvH.wait (h : OvH H H2 d w das was ds ws) (hwH : H w = none) (hdw : d ≠ w) {p : Int × Int} (ht : H2 t = some (.tup [.int p.1, .int p.2])) : OvH H (upd H2 w (.lst ((was ++ [t]).map V.ref))) d w das (was ++ [t]) ds (ws ++ [p]) :=
  ⟨smut h.same hwH, by rw [upd_ne hdw]; exact h.hd, upd_same, h.D.upd h.hw, (h.W.upd h.hw).snoc (by rw [upd_ne (ne_of ht h.hw (by intro z; cases z))]; exact ht)⟩
theorem OvH.pop {a : Addr} {p : Int × Int} (h : OvH H H2 d w das (was ++ [a]) ds (ws ++ [p])) (hwH : H w = none) (hdw : d ≠ w) : OvH H (upd H2 w (.lst (was.map V.ref))) d w das was ds ws ∧ H2 a = some (.tup [.int p.1, .int p.2]) ∧ a ≠ w := by
  obtain ⟨hW, ha⟩ := h.W.dropLast
  exact ⟨⟨smut h.same hwH, by rw [upd_ne hdw]; exact h.hd, upd_same, h.D.upd h.hw, hW.upd h.hw⟩, ha, ne_of ha h.hw (by intro z; cases z)⟩
end
def spOver (K : PySem.W.Frag) : Sp := fun vs H Q _ => ∃ (p : Addr) (cs : List Int), vs = [.ref p] ∧ SqL K H p (cs.map V.int) ∧ cs.sum = 0 ∧ cs.length ≤ 1001 ∧ (∀ c ∈ cs, ab c ≤ 2 ^ 200) ∧
  ∀ H' q as ds, Same H H' → H q = none → H' q = some (.lst (as.map V.ref)) → DsAt H' as ds → Over cs ds → Q (.ref q) H'
theorem bits_200 {x : Int} (h : ab x ≤ 2 ^ 200) : Builtin.Int.intBits x ≤ 201 := by
  rw [intBits_le_iff]
  have e : ((2 ^ 201 : Nat) : Int) = (2 : Int) ^ 201 := Int.natCast_pow 2 201
  have p : (2 : Int) ^ 200 < 2 ^ 201 := by decide +kernel
  unfold ab at h
  split at h <;> omega
section
variable {P : Program} {w : World} {K : PySem.W.Frag} {mg : Str → Option Value} {base : Heap}
abbrev NOver : List Str := ["changes", "deeds", "waiting", "place", "change", "left", "first", "owed", "steps"]
theorem scOver : FnScope NOver ["changes"] (defScope sOver) := ⟨rfl, rfl, rfl, by decide +kernel, rfl, by decide +kernel, by decide +kernel⟩
theorem ok_over (D : Def K mg "deeds_over" sOver ["changes"]) (B : Blt mg) (B2 : Blt2 mg) : Callee P w K mg base 1 "deeds_over" ["changes"] (spOver K) := by
  refine D.ok scOver (fun vs H Q E h => ?_) (fun f cdv A outer s H vs Q E hr h => ?_)
  · obtain ⟨p, cs, rfl, _⟩ := h
    rfl
  · obtain ⟨p, cs, rfl, hS, hz, hcl, hcB, q⟩ := h
    refine ⟨_, pss_cons (ps_set (i := 1) scOver.nd rfl (.inl rfl) (pe_lst pa_nil))
      (pss_cons (ps_set (i := 2) scOver.nd rfl (.inl rfl) (pe_lst pa_nil))
      (pss_cons (ps_for PassesOwn.never rfl (pi_enum (by rfl) B.enumerate (pa_cons (pv 0) pa_nil)) (pg_tup (by rfl) (pgs_cons (pg_name (i := 3) scOver.nd rfl (.inl rfl)) (pgs_cons (pg_name (i := 4) scOver.nd rfl (.inl rfl)) pgs_nil)))
        (pss_cons (ps_set (i := 5) scOver.nd rfl (.inl rfl) (pv 4))
        (pss_cons (ps_while PassesOwn.never (PW.pt (pw_and (pt_truth (pv 2) (by intro _; rfl)) (pw_and1 (pt_cmpR op_lt (pe_op op_mulB (pe_ix ix_tup (pe_ix ix_list (pv 2) (pe_un un_neg pe_int) (fun _ _ => rfl)) pe_int (fun _ _ => rfl)) (pv 5)) pe_int (nomark _)))))
          (pss_cons (ps_asg (pe_bm0 PySem.F.plainAttrs_list PySem.F.slot_list_pop PySem.F.type_list_pop mt_pop (pv 2)) (pg_tup (by rfl) (pgs_cons (pg_name (i := 6) scOver.nd rfl (.inl rfl)) (pgs_cons (pg_name (i := 7) scOver.nd rfl (.inl rfl)) pgs_nil))))
          (pss_cons (ps_set (i := 8) scOver.nd rfl (.inl rfl) (pe_ifExp (pt_cmpR op_le (pe_callB call_abs (by rfl) B2.abs PyProof.Rows.boot_abs (pa_cons (pv 7) pa_nil)) (pe_callB call_abs (by rfl) B2.abs PyProof.Rows.boot_abs (pa_cons (pv 5) pa_nil)) (nomark _)) (pv 7) (pe_un un_neg (pv 5))))
          (pss_cons (ps_expr (pe_bm PySem.F.plainAttrs_list PySem.F.slot_list_append PySem.F.type_list_append mt_append (pv 1) (pa_cons (pe_tup (pa_cons (pv 6) (pa_cons (pv 3) (pa_cons (pv 8) pa_nil)))) pa_nil)))
          (pss_cons (ps_aug (i := 5) scOver.nd rfl (.inl rfl) (pv 8) ip_add)
          (pss_one (ps_if (pt_cmpR op_ne (pv 7) (pv 8) (nomark _)) (pss_one (ps_expr (pe_bm PySem.F.plainAttrs_list PySem.F.slot_list_append PySem.F.type_list_append mt_append (pv 2) (pa_cons (pe_tup (pa_cons (pv 6) (pa_cons (pe_op op_sub (pv 7) (pv 8)) pa_nil))) pa_nil)))) pss_nil)))))))
        (pss_one (ps_if (pt_cmpR op_ne (pv 5) pe_int (nomark _)) (pss_one (ps_expr (pe_bm PySem.F.plainAttrs_list PySem.F.slot_list_append PySem.F.type_list_append mt_append (pv 2) (pa_cons (pe_tup (pa_cons (pv 3) (pa_cons (pv 5) pa_nil))) pa_nil)))) pss_nil)))))
      (pss_one (ps_ret (pv 1))))), ?_⟩
    refine ⟨Nat.zero_le _, fun d hd => ⟨Nat.zero_le _, fun w hw => ?_⟩⟩
    have sd : Same H (upd H d (.lst [])) := same_new hd
    have sw : Same (upd H d (.lst [])) (upd (upd H d (.lst [])) w (.lst [])) := same_new hw
    have hdw : d ≠ w := ne_of_none (upd_same (H := H) (a := d)) hw
    have hwH : H w = none := sd.free hw
    refine ⟨_, rfl, p, _, rfl, (sd.trans sw).seq hS, for_it (walk_enum (K := K) (a := p) (xs := cs.map V.int))
      (fun i σ H2 => (∃ x3 x4 x5 x6 x7 x8, σ = [some (.ref p), some (.ref d), some (.ref w), x3, x4, x5, x6, x7, x8]) ∧ ∃ das was ds ws, OvH H H2 d w das was ds ws ∧ Ov0 (2 ^ 200) cs i ds ws)
      ⟨⟨none, none, none, none, none, none, rfl⟩, [], [], [], [], ⟨sd.trans sw, sw _ _ upd_same, upd_same, DsAt.nil, PsAt.nil⟩, Ov0.nil⟩ (fun i σ H2 _ h => ?_) ?_ ?_⟩
    · obtain ⟨_, _, _, _, _, o, _⟩ := h
      exact o.same.seq hS
    · rintro i y σ H2 H3 hi ⟨⟨x3, x4, x5, x6, x7, x8, rfl⟩, das, was, ds, ws, o, v0⟩ ⟨U, u, v, rfl, nU, rfl, hu, hv⟩
      obtain ⟨c, hc, rfl⟩ := map_at hv
      cases hu
      have oU := o.new nU (o := .tup [.int ((i : Nat) : Int), .int c])
      refine ⟨U, _, rfl, .inl (.inl upd_same), rfl, _, _, rfl, _, _, rfl, rfl, ?_⟩
      generalize upd H2 U (.tup [.int ((i : Nat) : Int), .int c]) = H3 at oU
      clear o
      refine ⟨_, rfl, ?_⟩
      have hil : i < cs.length := at_lt hc
      have v1 : Ov (2 ^ 200) 0 cs i c ds ws := v0.start hc (hcB c (List.mem_of_getElem? hc))
      clear v0
      refine ⟨fun m σ H4 => ∃ x6 x7 x8 left das was ds ws, σ = [some (.ref p), some (.ref d), some (.ref w), some (.int ((i : Nat) : Int)), some (.int c), some (.int left), x6, x7, x8] ∧ OvH H H4 d w das was ds ws ∧ Ov (2 ^ 200) 0 cs i left ds ws ∧ ws.length + (if left = 0 then 0 else 1) = m,
        ⟨_, x6, x7, x8, c, das, was, ds, ws, rfl, oU, v1, rfl⟩, ?_⟩
      clear v1 oU das was ds ws x3 x4 x5 x6 x7 x8
      rintro m σ H4 ⟨x6, x7, x8, left, das, was, ds, ws, rfl, o, v, hm⟩
      have wl := o.W.len
      by_cases hgo : ∃ ws' f g, ws = ws' ++ [(f, g)] ∧ g * left < 0
      · -- one more is turned
        obtain ⟨ws, fi, g, rfl, hneg⟩ := hgo
        obtain ⟨was, a, rfl⟩ : ∃ b a, was = b ++ [a] := by
          rcases List.eq_nil_or_concat was with e | ⟨b, a, e⟩
          · subst e
            rw [List.length_append] at wl
            simp at wl
          · exact ⟨b, a, by rw [e, List.concat_eq_append]⟩
        obtain ⟨o2, ha, haw⟩ := o.pop hwH hdw
        have hw4 : H4 w = some (.lst (was.map V.ref ++ [V.ref a])) := by rw [o.hw, List.map_append]; rfl
        have hpl := v.place
        have hf := v.few
        have hdl := o.D.len
        rw [List.length_append] at hf
        have wl2 := o2.W.len
        have hlast : (was.map V.ref ++ [V.ref a])[(was.map V.ref ++ [V.ref a]).length - 1]? = some (V.ref a) := by
          rw [List.length_append, List.getElem?_append_right (by simp), show (was.map V.ref).length + [V.ref a].length - 1 - (was.map V.ref).length = 0 by simp]
          rfl
        have ha2 : (upd H4 w (.lst (was.map V.ref))) a = some (.tup [.int fi, .int g]) := by rw [upd_ne haw]; exact ha
        refine ⟨_, rfl, true, .inl ⟨_, SqL.of hw4, by simp⟩, ?_⟩
        refine iteT ⟨_, rfl, 1, rfl, w, _, _, _, rfl, rfl, SqL.of hw4, atI_last _ _, a, _, 1, _, rfl, rfl, .inl (.inl ha), atI_nat (j := 1) rfl, _, rfl, g, left, rfl, rfl, IntMulOk.of_le (m := 201) (bits_200 hpl.2.2) (bits_200 v.sl) (by decide), _, 0, rfl, rfl, _, rfl, ?_⟩
        rw [decide_eq_true hneg]
        refine iteT ⟨_, fun _ _ h => h, ?_⟩
        refine ⟨_, rfl, .inl ⟨rfl, _, SqL.of hw4⟩, w, _, V.ref a, rfl, rfl, hw4, hlast, ?_⟩
        rw [List.dropLast_concat]
        refine ⟨a, _, rfl, .inl (.inl ha2), rfl, _, _, rfl, _, _, rfl, rfl, ?_⟩
        generalize upd H4 w (.lst (was.map V.ref)) = H5 at o2
        refine ⟨_, rfl, g, rfl, _, rfl, left, rfl, _, _, rfl, rfl, _, rfl, ?_⟩
        by_cases hle : ab g ≤ ab left
        · rw [decide_eq_true (show (if g < 0 then -g else g) ≤ (if left < 0 then -left else left) from hle)]
          refine iteT ⟨_, rfl, ?_⟩
          refine ⟨_, rfl, .inl ⟨rfl, _, SqL.of o2.hd⟩, _, rfl, _, rfl, _, rfl, (by show 3 ≤ sizeLine; decide), fun t ht => ⟨d, _, _, rfl, rfl, (o2.new ht).hd, ?_, ?_⟩⟩
          · rw [List.length_map]
            exact line_lt (by omega)
          have o3 := (o2.new (o := .tup [.int fi, .int ((i : Nat) : Int), .int g]) ht).deed hd hdw (x := (fi, ((i : Nat) : Int), g)) upd_same
          rw [List.map_append] at o3
          refine ⟨_, rfl, _, rfl, _, _, rfl, rfl, _, rfl, _, rfl, rfl, _, rfl, ?_⟩
          rw [decide_eq_true rfl]
          refine iteF ⟨_, ?_, _, _, _, left + g, das ++ [t], was, ds ++ [(fi, ((i : Nat) : Int), g)], ws, rfl, o3, v.whole hneg hle, rfl⟩
          have hl : left ≠ 0 := fun e => by subst e; simp at hneg
          rw [← hm, if_neg hl, List.length_append]
          show _ < _ + 1 + 1
          split <;> omega
        · rw [decide_eq_false (show ¬ (if g < 0 then -g else g) ≤ (if left < 0 then -left else left) from hle)]
          refine iteF ⟨_, rfl, left, rfl, ?_⟩
          refine ⟨_, rfl, .inl ⟨rfl, _, SqL.of o2.hd⟩, _, rfl, _, rfl, _, rfl, (by show 3 ≤ sizeLine; decide), fun t ht => ⟨d, _, _, rfl, rfl, (o2.new ht).hd, ?_, ?_⟩⟩
          · rw [List.length_map]
            exact line_lt (by omega)
          have o3 := (o2.new (o := .tup [.int fi, .int ((i : Nat) : Int), .int (-left)]) ht).deed hd hdw (x := (fi, ((i : Nat) : Int), -left)) upd_same
          rw [List.map_append] at o3
          refine ⟨_, rfl, _, rfl, _, _, rfl, rfl, _, rfl, _, rfl, rfl, _, rfl, ?_⟩
          have hgl : g ≠ -left := fun e => by subst e; exact hle (by unfold ab; split <;> split <;> omega)
          rw [decide_eq_false (fun e => hgl (V.int.inj e))]
          refine iteT ⟨_, rfl, .inl ⟨rfl, _, SqL.of o3.hw⟩, _, rfl, _, rfl, _, rfl, _, _, rfl, rfl, (by show 2 ≤ sizeLine; decide), fun t2 ht2 => ⟨w, _, _, rfl, rfl, (o3.new ht2).hw, ?_, ?_⟩⟩
          · rw [List.length_map]
            exact line_lt (by omega)
          have o4 := (o3.new (o := .tup [.int fi, .int (g - -left)]) ht2).wait hwH hdw (p := (fi, g - -left)) upd_same
          rw [List.map_append] at o4
          refine ⟨_, ?_, _, _, _, left + -left, das ++ [t], was ++ [t2], ds ++ [(fi, ((i : Nat) : Int), -left)], ws ++ [(fi, g - -left)], rfl, o4, v.part hneg hle, rfl⟩
          have hl : left ≠ 0 := fun e => by subst e; simp at hneg
          rw [← hm, if_neg hl, if_pos (by omega), List.length_append, List.length_append]
          show _ + 1 + 0 < _ + 1 + 1
          omega
      · -- nothing more is turned here
        have hno : ∀ p, ws.getLast? = some p → ¬ p.2 * left < 0 := fun p e hn => by
          rcases List.eq_nil_or_concat ws with e2 | ⟨b, p2, e2⟩
          · subst e2; cases e
          · rw [List.concat_eq_append] at e2
            subst e2
            rw [List.getLast?_concat] at e
            cases e
            exact hgo ⟨b, p.1, p.2, rfl, hn⟩
        have hf := v.few
        rcases List.eq_nil_or_concat ws with e2 | ⟨ws', p2, e2⟩
        case inl =>
          have hwn : was = [] := List.eq_nil_of_length_eq_zero (by rw [wl, e2]; rfl)
          have hw4 := o.hw
          rw [hwn] at hw4
          refine ⟨_, rfl, false, .inl ⟨_, SqL.of hw4, rfl⟩, iteF (iteF ?_)⟩
          refine ⟨_, rfl, rfl, _, rfl, ?_⟩
          by_cases h0 : left = 0
          · subst h0
            rw [decide_eq_true rfl]
            exact iteF ⟨⟨_, _, _, _, _, _, rfl⟩, das, was, ds, ws, o, v.none⟩
          · rw [decide_eq_false (fun e => h0 (V.int.inj e))]
            refine iteT ⟨_, rfl, .inl ⟨rfl, _, SqL.of o.hw⟩, _, rfl, _, rfl, (by show 2 ≤ sizeLine; decide), fun t ht => ⟨w, _, _, rfl, rfl, (o.new ht).hw, ?_, ?_⟩⟩
            · rw [List.length_map]
              exact line_lt (by rw [wl]; omega)
            have o3 := (o.new (o := .tup [.int ((i : Nat) : Int), .int left]) ht).wait hwH hdw (p := (((i : Nat) : Int), left)) upd_same
            rw [List.map_append] at o3
            exact ⟨⟨_, _, _, _, _, _, rfl⟩, das, was ++ [t], ds, ws ++ [(((i : Nat) : Int), left)], o3, v.wait h0 hno⟩
        case inr =>
          rw [List.concat_eq_append] at e2
          obtain ⟨was', a, ewas⟩ : ∃ b a, was = b ++ [a] := by
            rcases List.eq_nil_or_concat was with e | ⟨b, a, e⟩
            · rw [e2, e, List.length_append] at wl
              simp at wl
            · exact ⟨b, a, by rw [e, List.concat_eq_append]⟩
          have hW := o.W
          rw [e2, ewas] at hW
          have hw4 : H4 w = some (.lst (was'.map V.ref ++ [V.ref a])) := by rw [o.hw, ewas, List.map_append]; rfl
          have ha := hW.dropLast.2
          have hpl := v.sm p2 (by rw [e2]; exact List.mem_append_right _ (List.mem_singleton.mpr rfl))
          have hng : ¬ p2.2 * left < 0 := fun hn => hgo ⟨ws', p2.1, p2.2, e2, hn⟩
          refine ⟨_, rfl, true, .inl ⟨_, SqL.of hw4, by simp⟩, ?_⟩
          refine iteT ⟨_, rfl, 1, rfl, w, _, _, _, rfl, rfl, SqL.of hw4, atI_last _ _, a, _, 1, _, rfl, rfl, .inl (.inl ha), atI_nat (j := 1) rfl, _, rfl, p2.2, left, rfl, rfl, IntMulOk.of_le (m := 201) (bits_200 hpl) (bits_200 v.sl) (by decide), _, 0, rfl, rfl, _, rfl, ?_⟩
          rw [decide_eq_false hng]
          refine iteF ?_
          refine ⟨_, rfl, rfl, _, rfl, ?_⟩
          by_cases h0 : left = 0
          · subst h0
            rw [decide_eq_true rfl]
            exact iteF ⟨⟨_, _, _, _, _, _, rfl⟩, das, was, ds, ws, o, v.none⟩
          · rw [decide_eq_false (fun e => h0 (V.int.inj e))]
            refine iteT ⟨_, rfl, .inl ⟨rfl, _, SqL.of o.hw⟩, _, rfl, _, rfl, (by show 2 ≤ sizeLine; decide), fun t ht => ⟨w, _, _, rfl, rfl, (o.new ht).hw, ?_, ?_⟩⟩
            · rw [List.length_map]
              exact line_lt (by rw [wl]; omega)
            have o3 := (o.new (o := .tup [.int ((i : Nat) : Int), .int left]) ht).wait hwH hdw (p := (((i : Nat) : Int), left)) upd_same
            rw [List.map_append] at o3
            exact ⟨⟨_, _, _, _, _, _, rfl⟩, das, was ++ [t], ds, ws ++ [(((i : Nat) : Int), left)], o3, v.wait h0 hno⟩
    · rintro σ H2 ⟨⟨x3, x4, x5, x6, x7, x8, rfl⟩, das, was, ds, ws, o, v⟩
      rw [List.length_map] at v
      exact ⟨_, rfl, q H2 d das ds o.same hd o.hd o.D (v.over hz)⟩
end
end DR
namespace DR
open PySem PySem.Spec PyProof.Rows L2
/-! ### the changes make the one row into the other one -/
theorem take_map_mod {m : Int} {cs gs : List Int} (h : cs.map (· % m) = gs.map (· % m)) (j : Nat) : (cs.take j).sum % m = (gs.take j).sum % m := by
  rw [← sum_mod (cs.take j), ← sum_mod (gs.take j), List.map_take, List.map_take, h]
theorem diffs_take : ∀ (l : List Int) (x : Int) (i : Nat) (z : Int), (x :: l)[i]? = some z → ((diffs (x :: l)).take i).sum = z - x
  | l, x, 0, z, h => by
    have e : x = z := by simpa using h
    rw [List.take_zero, ← e]
    show (0 : Int) = x - x
    omega
  | [], x, i + 1, z, h => by simp at h
  | y :: r, x, i + 1, z, h => by
    have ih := diffs_take r y i z (by simpa using h)
    show ((y - x) :: (diffs (y :: r)).take i).sum = z - x
    rw [List.sum_cons, ih]
    omega
theorem over_behind {m k : Int} {xs ys cs : List Int} {ds : List Deed} (hm : 0 < m) (hl : xs.length = ys.length) (hy : RowOk m ys) (hc : AllC m k ((raw xs ys).map (· % m)) cs) (h : Over cs ds) : behind m xs ds = ys := by
  have hmod : cs.map (· % m) = (raw xs ys).map (· % m) := by
    rw [allC_mod hc, List.map_map]
    refine List.map_congr_left fun x _ => ?_
    show x % m % m = x % m
    exact Int.emod_emod_of_dvd x (Int.dvd_refl m)
  refine List.ext_getElem? fun i => ?_
  rw [behind_get]
  by_cases hi : i < xs.length
  · have ex := List.getElem?_eq_getElem hi
    have ey := List.getElem?_eq_getElem (show i < ys.length by omega)
    have ez : ((0 : Int) :: (List.zipWith (fun x y => y - x) xs ys ++ [0]))[i + 1]? = some (ys[i] - xs[i]) := by
      rw [List.getElem?_cons_succ, List.getElem?_append_left (by rw [List.length_zipWith]; omega), List.getElem?_zipWith, ex, ey]
    have es := diffs_take (List.zipWith (fun x y => y - x) xs ys ++ [0]) 0 (i + 1) _ ez
    have ec := take_map_mod hmod (i + 1)
    rw [ex, ey]
    show some ((xs[i] + cover ds (i : Int)) % m) = some ys[i]
    rw [h.cov i, Int.add_emod, ec]
    have e2 : ((raw xs ys).take (i + 1)).sum = ys[i] - xs[i] := by
      have : ((raw xs ys).take (i + 1)).sum = ys[i] - xs[i] - 0 := es
      omega
    rw [e2, ← Int.add_emod, show xs[i] + (ys[i] - xs[i]) = ys[i] by omega]
    obtain ⟨h0, h1⟩ := hy _ (List.getElem_mem (show i < ys.length by omega))
    rw [Int.emod_eq_of_lt h0 h1]
  · rw [List.getElem?_eq_none (by omega), List.getElem?_eq_none (by omega)]
    rfl
theorem over_right {m k : Int} {xs ys cs : List Int} {ds : List Deed} (hm : 0 < m) (hl : xs.length = ys.length) (hy : RowOk m ys) (hc : AllC m k ((raw xs ys).map (· % m)) cs) (hz : cs.sum = 0) (hk : k ∈ (raw xs ys).map (· % m)) (h : Over cs ds) : Right m xs ys ds k := by
  have hlen : cs.length = xs.length + 1 := by rw [allC_length hc, List.length_map, raw_length hl]
  obtain ⟨k0, k1⟩ := gaps_ok hm k hk
  refine ⟨fun d hd => ?_, over_behind hm hl hy hc h, k0, by omega, ?_⟩
  · have := h.ok d hd
    rw [hlen] at this
    exact ⟨this.1, this.2.1, by have := this.2.2.1; omega, this.2.2.2⟩
  · rw [bound_chg hm (gaps_ok hm) hc, hz, h.cst]
    omega
def spRows (K : PySem.W.Frag) : Sp := fun vs H Q _ => ∃ (m : Int) (a b : Addr) (xs ys : List Int), vs = [.int m, .ref a, .ref b] ∧ SqL K H a (xs.map V.int) ∧ SqL K H b (ys.map V.int) ∧ xs.length = ys.length ∧ 2 ≤ m ∧ RowOk m xs ∧ RowOk m ys ∧ Q .non H
section
variable {P : Program} {w : World} {K : PySem.W.Frag} {mg : Str → Option Value} {base : Heap} {Tb : List Addr} {C : Addr}
theorem scRows : FnScope ["size", "one", "other"] ["size", "one", "other"] (defScope sRows) := ⟨rfl, rfl, rfl, by decide +kernel, rfl, by decide +kernel, by decide +kernel⟩
theorem ok_rows (D : Def K mg "check_rows" sRows ["size", "one", "other"]) (B : Blt mg) (GS : Callee P w K mg base 2 "check_size" ["size"] spSize) (GR : Callee P w K mg base 2 "check_row" ["size", "row"] (spRow K)) : Callee P w K mg base 3 "check_rows" ["size", "one", "other"] (spRows K) := by
  refine D.ok scRows (fun vs H Q E h => ?_) (fun f cdv A outer s H vs Q E hr h => ?_)
  · obtain ⟨m, a, b, xs, ys, rfl, _⟩ := h
    rfl
  · obtain ⟨m, a, b, xs, ys, rfl, hA, hB, hl, hm, hx, hy, q⟩ := h
    refine ⟨_, pss_cons (ps_expr (pe_c GS hr (by rfl) (pa_cons (pv 0) pa_nil)))
      (pss_cons (ps_expr (pe_c GR hr (by rfl) (pa_cons (pv 0) (pa_cons (pv 1) pa_nil))))
      (pss_cons (ps_expr (pe_c GR hr (by rfl) (pa_cons (pv 0) (pa_cons (pv 2) pa_nil))))
      (pss_one (ps_if (pt_cmpR op_ne (pe_callB call_len_seq (by rfl) B.len PySem.boot_len (pa_cons (pv 1) pa_nil)) (pe_callB call_len_seq (by rfl) B.len PySem.boot_len (pa_cons (pv 2) pa_nil)) (nomark _)) (pss_one ps_never) pss_nil)))), ?_⟩
    refine ⟨_, rfl, m, rfl, hm, _, rfl, _, rfl, m, a, xs, rfl, hA, hx, _, rfl, _, rfl, m, b, ys, rfl, hB, hy, ?_⟩
    refine ⟨_, rfl, a, _, rfl, .inl hA, _, rfl, b, _, rfl, .inl hB, rfl, _, rfl, ?_⟩
    rw [decide_eq_true (show V.int _ = V.int _ by rw [List.length_map, List.length_map, hl])]
    exact iteF q
abbrev NBest : List Str := ["size", "one", "other", "changes", "mark"]
theorem scBest : FnScope NBest ["size", "one", "other"] (defScope sBest) := ⟨rfl, rfl, rfl, by decide +kernel, rfl, by decide +kernel, by decide +kernel⟩
theorem ok_best (D : Def K mg "best" sBest ["size", "one", "other"]) (B : Blt mg) (T : BestCls K mg C) (GR : Callee P w K mg base 3 "check_rows" ["size", "one", "other"] (spRows K)) (GG : Callee P w K mg base 1 "gaps_between" ["size", "one", "other"] (spGaps K))
    (GL : Callee P w K mg base 1 "least_changes" ["size", "gaps"] (spLeast K)) (GO : Callee P w K mg base 1 "deeds_over" ["changes"] (spOver K)) (GK : Makes P w K mg base 1 C ["self", "deeds", "mark"] (spInit K C)) :
    Callee P w K mg base 4 "best" ["size", "one", "other"] (spBest Tb K C) := by
  refine D.ok scBest (fun vs H Q E h => ?_) (fun f cdv A outer s H vs Q E hr h => ?_)
  · obtain ⟨m, a, b, xs, ys, rfl, _⟩ := h
    rfl
  · obtain ⟨m, a, b, xs, ys, rfl, hK, q⟩ := h
    have hr1 : Room 1 _ := hr.mono (by decide)
    have hr2 : Room 2 _ := hr.mono (by decide)
    refine ⟨_, pss_cons (ps_expr (pe_c GR hr (by rfl) (pa_cons (pv 0) (pa_cons (pv 1) (pa_cons (pv 2) pa_nil)))))
      (pss_cons (ps_asg (pe_c GL hr1 (by rfl) (pa_cons (pv 0) (pa_cons (pe_c GG hr1 (by rfl) (pa_cons (pv 0) (pa_cons (pv 1) (pa_cons (pv 2) pa_nil)))) pa_nil))) (pg_tup (by rfl) (pgs_cons (pg_name (i := 3) scBest.nd rfl (.inl rfl)) (pgs_cons (pg_name (i := 4) scBest.nd rfl (.inl rfl)) pgs_nil))))
      (pss_one (ps_ret (pe_k GK hr2 (by rfl) T.g (pa_cons (pe_c GO hr1 (by rfl) (pa_cons (pv 3) pa_nil)) (pa_cons (pv 4) pa_nil)))))), ?_⟩
    have hm : 0 < m := by have := hK.two; omega
    have hl := hK.len
    refine ⟨_, rfl, _, rfl, _, rfl, m, a, b, xs, ys, rfl, hK.one, hK.other, hK.len, hK.two, hK.rone, hK.rother, ?_⟩
    refine ⟨_, rfl, _, rfl, _, rfl, _, rfl, m, a, b, xs, ys, rfl, hK.one, hK.other, hK.len, hK.few, hm, fun H1 g s1 hg0 hg1 => ?_⟩
    obtain ⟨qn, hq1, hq2, hq3⟩ := sizes_of hm hK.len
    have hgl : ((raw xs ys).map (· % m)).length = xs.length + 1 := by rw [List.length_map, raw_length hK.len]
    refine ⟨m, g, _, qn, rfl, SqL.of hg1, hm, hK.big, hq1, hq3, by omega, by have := hK.few; omega, fun H2 t c cs k s2 hc0 ht2 hc2 hall hz hk => ?_⟩
    have t2 := s1.trans s2
    refine ⟨t, _, rfl, .inl (.inl ht2), rfl, _, _, rfl, _, _, rfl, rfl, ?_⟩
    have hcl : cs.length = xs.length + 1 := by rw [allC_length hall, hgl]
    refine ⟨_, rfl, c, cs, rfl, SqL.of hc2, hz, by have := hK.few; omega, fun x hx => Int.le_trans (allC_small hm (gaps_ok hm) hall x hx) (Int.le_of_lt hK.big), fun H3 d as ds s3 hd0 hd3 hD hO => ?_⟩
    have t3 := t2.trans s3
    refine ⟨_, rfl, fun x dx hx0 hdx0 hne => ?_⟩
    have sX : ∀ {H' : Hp}, (∀ b u, b ≠ x → (upd (upd H3 dx (.own x)) x (.ins C dx [])) b = some u → H' b = some u) → Same H3 H' := fun {H'} f => Same.of fun b u e => f b u (ne_of_none e hx0) (by rw [upd_ne (ne_of_none e hx0), upd_ne (ne_of_none e hdx0)]; exact e)
    have s4 : Same H3 (upd (upd H3 dx (.own x)) x (.ins C dx [])) := sX fun b u _ e => e
    have hdl : ds.length ≤ 1001 := by have := hO.few; have := hK.few; omega
    refine ⟨x, d, dx, as, ds, k, rfl, upd_same, SqL.of (s4 _ _ hd3), hD.same s4, by omega, fun H5 p' as' f5 hp0 hB => ⟨rfl, ?_⟩⟩
    have s5 : Same H3 H5 := sX f5
    exact q H5 x p' as' ds k (t3.trans s5) (t3.free hx0) ((t3.trans s4).free hp0) hB (over_right hm hK.len hK.rother hall hz hk hO) (by omega)
theorem scApart : FnScope ["size", "one", "other"] ["size", "one", "other"] (defScope sApart) := ⟨rfl, rfl, rfl, by decide +kernel, rfl, by decide +kernel, by decide +kernel⟩
theorem ok_apart (D : Def K mg "apart" sApart ["size", "one", "other"]) (T : BestCls K mg C) (GB : Callee P w K mg base 4 "best" ["size", "one", "other"] (spBest Tb K C)) (GS : Callee P w K mg base 2 "steps_of" ["deeds"] (spSteps Tb K)) :
    Callee P w K mg base 5 "apart" ["size", "one", "other"] (spApart Tb K) := by
  refine D.ok scApart (fun vs H Q E h => ?_) (fun f cdv A outer s H vs Q E hr h => ?_)
  · obtain ⟨m, a, b, xs, ys, rfl, _⟩ := h
    rfl
  · obtain ⟨m, a, b, xs, ys, rfl, hK, q⟩ := h
    have hr2 : Room 2 _ := hr.mono (by decide)
    refine ⟨_, pss_one (ps_ret (pe_c GS hr2 (by rfl) (pa_cons (pe_fld (pe_c GB hr (by rfl) (pa_cons (pv 0) (pa_cons (pv 1) (pa_cons (pv 2) pa_nil)))) rfl) pa_nil))), ?_⟩
    refine ⟨_, rfl, _, rfl, _, rfl, m, a, b, xs, ys, rfl, hK, fun H1 x p as ds k s1 hx0 hp0 hB hR hdl => ?_⟩
    obtain ⟨⟨dx, fs, hx, fD, fM, _⟩, hp, hT⟩ := hB
    exact ⟨x, C, dx, fs, _, rfl, hx, T.cl, T.nD, fD, p, as, ds, rfl, SqL.of hp, hT, hK.tab.same s1, fun H2 s2 => q H2 _ (s1.trans s2) ⟨ds, k, hR, rfl⟩⟩
end
end DR
namespace DR
open PySem PySem.Spec PyProof.Rows L2
theorem rep_first (xs : List Int) : (List.replicate xs.length (xs.take 1)).flatten = List.replicate xs.length (xs.headD 0) := by
  cases xs with
  | nil => rfl
  | cons x r =>
    show (List.replicate _ [x]).flatten = List.replicate _ x
    rw [List.flatten_replicate_singleton]
section
variable {P : Program} {w : World} {K : PySem.W.Frag} {mg : Str → Option Value} {base : Heap} {Tb : List Addr} {C : Addr}
theorem scLevel : FnScope ["size", "row"] ["size", "row"] (defScope sLevel) := ⟨rfl, rfl, rfl, by decide +kernel, rfl, by decide +kernel, by decide +kernel⟩
theorem ok_level (D : Def K mg "level" sLevel ["size", "row"]) (B : Blt mg) (GS : Callee P w K mg base 2 "check_size" ["size"] spSize) (GR : Callee P w K mg base 2 "check_row" ["size", "row"] (spRow K)) (GB : Callee P w K mg base 4 "best" ["size", "one", "other"] (spBest Tb K C)) :
    Callee P w K mg base 5 "level" ["size", "row"] (spLevel Tb K C) := by
  refine D.ok scLevel (fun vs H Q E h => ?_) (fun f cdv A outer s H vs Q E hr h => ?_)
  · obtain ⟨m, a, xs, rfl, _⟩ := h
    rfl
  · obtain ⟨m, a, xs, rfl, hS, hl, hm, hmx, hR, hT, q⟩ := h
    have hr2 : Room 2 _ := hr.mono (by decide)
    refine ⟨_, pss_cons (ps_expr (pe_c GS hr2 (by rfl) (pa_cons (pv 0) pa_nil)))
      (pss_cons (ps_expr (pe_c GR hr2 (by rfl) (pa_cons (pv 0) (pa_cons (pv 1) pa_nil))))
      (pss_one (ps_ret (pe_c GB hr (by rfl) (pa_cons (pv 0) (pa_cons (pv 1) (pa_cons (pe_op op_rep (pe_slice sl_list (pv 1) po_none (po_some pe_int)) (pe_callB call_len_seq (by rfl) B.len PySem.boot_len (pa_cons (pv 1) pa_nil))) pa_nil))))))), ?_⟩
    refine ⟨_, rfl, m, rfl, hm, _, rfl, _, rfl, m, a, xs, rfl, hS, hR, ?_⟩
    refine ⟨_, rfl, _, rfl, _, rfl, 1, rfl, a, _, rfl, hS, fun Z hZ => ?_⟩
    have s1 := same_new (o := .lst (cutV (xs.map V.int) none (some 1))) hZ
    rw [show (1 : Int) = ((1 : Nat) : Int) from rfl, cut_nat, ← List.map_take] at s1 ⊢
    refine ⟨_, rfl, a, _, rfl, .inl (s1.seq hS), Z, _, _, rfl, rfl, upd_same, ?_, ?_, ?_, fun c hc => ?_⟩
    · omega
    · rw [List.length_map]; omega
    · exact line_of (Nat.le_trans (Nat.mul_le_mul_right _ (show ((xs.take 1).map V.int).length ≤ 1 by rw [List.length_map, List.length_take]; omega)) (by rw [List.length_map]; omega))
    have s2 := same_new (o := .lst (List.replicate ((xs.map V.int).length : Int).toNat ((xs.take 1).map V.int)).flatten) hc
    have hc2 : (upd (upd H Z (.lst ((xs.take 1).map V.int))) c (.lst (List.replicate ((xs.map V.int).length : Int).toNat ((xs.take 1).map V.int)).flatten)) c = some (.lst ((List.replicate xs.length (xs.headD 0)).map V.int)) := by
      rw [upd_same, ← rep_first, List.length_map, Int.toNat_natCast, List.map_flatten, List.map_replicate]
    generalize upd (upd H Z (.lst ((xs.take 1).map V.int))) c (.lst (List.replicate ((xs.map V.int).length : Int).toNat ((xs.take 1).map V.int)).flatten) = H2 at s2 hc2
    have t2 := s1.trans s2
    refine ⟨m, a, c, xs, _, rfl, ⟨t2.seq hS, SqL.of hc2, by rw [List.length_replicate], hl, hm, hmx, hR, fun y hy => ?_, hT.same t2⟩, fun H' x p as ds k s hx hp hB hRi hdl => q H' x p as ds k (t2.trans s) (t2.free hx) (t2.free hp) hB hRi hdl⟩
    obtain ⟨hn, e⟩ := List.mem_replicate.mp hy
    subst e
    cases xs with
    | nil => exact absurd rfl hn
    | cons z r => exact hR z List.mem_cons_self
end
end DR
namespace DR
open PySem PySem.Spec PyProof.Rows L2
/-! ### defs that may refuse -/
def CalleeX (P : Program) (w : World) (K : PySem.W.Frag) (mg : Str → Option Value) (base : Heap) (k : Nat) (x : Str) (ps : List Str) (sp : Sp) : Prop :=
  ∃ f fd, mg x = some (.ref f) ∧ PySem.W.keepIn K (.ref f) = true ∧ Binds K fd ps [] ∧ FnOk P w K mg base (L2.CX P w) k f fd ps sp
section
variable {P : Program} {w : World} {K : PySem.W.Frag} {mg : Str → Option Value} {base : Heap}
theorem Def.okX {x : Str} {st : Stmt} {N ps : List Str} {k : Nat} {sp : Sp} (D : Def K mg x st ps) (S : FnScope N ps (defScope st)) (len : ∀ vs H Q E, sp vs H Q E → vs.length = ps.length)
    (hbody : ∀ (f : Addr) (cdv : Value) (A : Around) (outer : List Env) (s : Shared) (H : Hp) (vs : List V) (Q : VK) (E : XK), Room k (A.deeper (envOfC x (defScope st) s.heap.objs.size f cdv)) → sp vs H Q E →
      ∃ t, PSs (cxOf (L2.CX P w) P w K mg base N x (defScope st) f cdv A outer s H E) (defBody st) t ∧ t { nx := fun _ H' => Q .non H', rt := Q } (start N vs) H) : CalleeX P w K mg base (k + 1) x ps sp := by
  obtain ⟨f, fd, F, g, b⟩ := D
  exact ⟨f, fd, g, F.kp, b, F.okX S len fun cdv A outer s H vs Q E hr h => hbody f cdv A outer s H vs Q E hr h⟩
end
/-- an own error x, at C -/
structure ErrCls (K : PySem.W.Frag) (mg : Str → Option Value) (x : Str) (C : Addr) : Prop where
  g : mg x = some (.ref C)
  q : ∃ bmB newId B initId, ExcBaseFacts B newId initId bmB ∧ PySem.W.excIn K C bmB newId = true
  kp : PySem.W.keepIn K (.ref C) = true
  ex : PySem.W.subIn K (.ref C) (.type "BaseException") = some true
  ty : PySem.W.typeIn K (.ref C) = some (.type "type")
theorem ps_err {X : Cx} {W : WX} {x m : Str} {C : Addr} {j : Nat} {p p2 pos pos2 : Pos} (T : ErrCls X.K X.mg x C) (hc : X.calm = true) (tk : Takes X W) (hg : Gl X x) (hdb : (x == ("__debug__" : Str)) = false := by decide) :
    PS X (.Raise (some (.Call (.Name x p) [.Constant (.str m) j p2] [] pos)) none pos2) (fun _ σ H => W (.ref C) none σ H) := by
  obtain ⟨bmB, newId, B, initId, F, q⟩ := T.q
  exact ps_raise hc tk (pmk_own F q T.g T.kp (raises_own T.ex T.ty) hg hdb)
def spSizeX (K : PySem.W.Frag) (C : Addr) : Sp := fun vs H Q E => ∃ x b, vs = [x] ∧ NumB K H x b ∧ ((∃ m : Int, x = .int m ∧ 2 ≤ m) → Q .non H) ∧ ((∀ m : Int, x = .int m → m < 2) → E (.ref C) none H)
section
variable {P : Program} {w : World} {K : PySem.W.Frag} {mg : Str → Option Value} {base : Heap} {C : Addr}
theorem ok_sizeX (D : Def K mg "check_size" sSize ["size"]) (GN : Callee P w K mg base 1 "is_number" ["thing"] (spNum K)) (T : ErrCls K mg "BadSize" C) : CalleeX P w K mg base 2 "check_size" ["size"] (spSizeX K C) := by
  refine D.okX scSize (fun vs H Q E h => ?_) (fun f cdv A outer s H vs Q E hr h => ?_)
  · obtain ⟨x, b, rfl, _⟩ := h
    rfl
  · obtain ⟨x, b, rfl, hn, q, e⟩ := h
    refine ⟨_, pss_one (ps_if (PW.pt (pw_or (pt_not (pt_val (pe_c GN hr (by rfl) (pa_cons (pv 0) pa_nil)))) (pw_or1 (pt_cmpR op_lt (pv 0) pe_int (nomark _))))) (pss_one (ps_err T rfl (takes_of rfl rfl rfl rfl) (by rfl))) pss_nil), ?_⟩
    refine ⟨_, rfl, x, b, rfl, hn, b, rfl, ?_⟩
    cases hn with
    | int m =>
      refine iteF ⟨_, rfl, m, 2, rfl, rfl, _, rfl, ?_⟩
      by_cases h : m < 2
      · rw [decide_eq_true h]
        exact iteT (e fun n hn => by rw [← V.int.inj hn]; exact h)
      · rw [decide_eq_false h]
        exact iteF (q ⟨m, rfl, by omega⟩)
    | bl c => exact iteT (e fun n hn => nomatch hn)
    | non => exact iteT (e fun n hn => nomatch hn)
    | str z => exact iteT (e fun n hn => nomatch hn)
    | lst h => exact iteT (e fun n hn => nomatch hn)
    | tup h => exact iteT (e fun n hn => nomatch hn)
/-- no list, of the sorts that are asked with -/
inductive NotL (K : PySem.W.Frag) (H : Hp) : V → Prop
  | int (i : Int) : NotL K H (.int i)
  | bl (b : Bool) : NotL K H (.bl b)
  | non : NotL K H .non
  | str (x : Str) : NotL K H (.str x)
  | tup {a : Addr} {xs : List V} (h : SqT K H a xs) : NotL K H (.ref a)
def FigOk (m : Int) (x : V) : Prop := ∃ i, x = .int i ∧ 0 ≤ i ∧ i < m
def spRowX (K : PySem.W.Frag) (C : Addr) : Sp := fun vs H Q E => ∃ (m : Int) (v : V), vs = [.int m, v] ∧ ((NotL K H v ∧ E (.ref C) none H) ∨ ∃ a xs, v = .ref a ∧ SqL K H a xs ∧ (∀ x ∈ xs, ∃ b, NumB K H x b) ∧ ((∀ x ∈ xs, FigOk m x) → Q .non H) ∧ ((∃ x ∈ xs, ¬ FigOk m x) → E (.ref C) none H))
theorem ok_rowX (D : Def K mg "check_row" sRow ["size", "row"]) (B : Blt mg) (GN : Callee P w K mg base 1 "is_number" ["thing"] (spNum K)) (T : ErrCls K mg "BadRow" C) : CalleeX P w K mg base 2 "check_row" ["size", "row"] (spRowX K C) := by
  refine D.okX scRow (fun vs H Q E h => ?_) (fun f cdv A outer s H vs Q E hr h => ?_)
  · obtain ⟨m, v, rfl, _⟩ := h
    rfl
  · obtain ⟨m, v, rfl, h⟩ := h
    refine ⟨_, pss_cons (ps_if (pt_not (pt_val (pe_callB call_isi (by rfl) B.isi boot_isinstance (pa_cons (pv 1) (pa_cons (pe_bltn (v := .ty "list") (by rfl) B.list PyProof.Rows.boot_list rfl) pa_nil))))) (pss_one (ps_err T rfl (takes_of rfl rfl rfl rfl) (by rfl))) pss_nil)
      (pss_one (ps_for (passes_of rfl) rfl (pi_list (pv 1)) (pg_name (i := 2) scRow.nd rfl (.inl rfl))
        (pss_one (ps_if (PW.pt (pw_or (pt_not (pt_val (pe_c GN hr (by rfl) (pa_cons (pv 2) pa_nil)))) (pw_or (pt_cmpR op_lt (pv 2) pe_int (nomark _)) (pw_or1 (pt_cmpR op_ge (pv 2) (pv 0) (nomark _)))))) (pss_one (ps_err T rfl (takes_of rfl rfl rfl rfl) (by rfl))) pss_nil)))), ?_⟩
    rcases h with ⟨hn, e⟩ | ⟨a, xs, rfl, hS, hN, q, e⟩
    · cases hn with
      | int i => exact ⟨_, rfl, ⟨_, _, _, _, false, rfl, .ty _, .base (.int i), kit_ty (by decide +kernel), ⟨false, rfl, iteT e⟩⟩⟩
      | bl b => exact ⟨_, rfl, ⟨_, _, _, _, false, rfl, .ty _, .base (.bl b), kit_ty (by decide +kernel), ⟨false, rfl, iteT e⟩⟩⟩
      | non => exact ⟨_, rfl, ⟨_, _, _, _, false, rfl, .ty _, .base .non, kit_ty (by decide +kernel), ⟨false, rfl, iteT e⟩⟩⟩
      | str z => exact ⟨_, rfl, ⟨_, _, _, _, false, rfl, .ty _, .base (.str z), kit_ty (by decide +kernel), ⟨false, rfl, iteT e⟩⟩⟩
      | tup h => exact ⟨_, rfl, ⟨_, _, _, _, false, rfl, .ty _, ty_tup h, kit_ty (by decide +kernel), ⟨false, rfl, iteT e⟩⟩⟩
    · refine ⟨_, rfl, ⟨_, _, _, _, true, rfl, .ty _, (ty_lst hS), kit_ty (by decide +kernel), ⟨true, rfl, iteF ?_⟩⟩⟩
      refine ⟨_, rfl, a, rfl, ⟨_, hS⟩, for_list (K := K) (a := a) (xs := xs) (fun i σ H2 => (∃ v, σ = [some (.int m), some (.ref a), v]) ∧ H2 = H ∧ ∀ x ∈ xs.take i, FigOk m x) ⟨⟨none, rfl⟩, rfl, fun x hx => nomatch hx⟩ (fun i σ H2 _ h => by rw [h.2.1]; exact hS) ?_ ?_⟩
      · rintro i y σ H2 hi ⟨⟨v, rfl⟩, rfl, hok⟩
        have hy := List.mem_of_getElem? hi
        have bad : ¬ FigOk m y → E (.ref C) none H2 := fun hb => e ⟨y, hy, hb⟩
        obtain ⟨b, hb⟩ := hN y hy
        refine ⟨_, rfl, y, b, rfl, hb, b, rfl, ?_⟩
        cases hb with
        | int z =>
          refine iteF ⟨_, rfl, z, 0, rfl, rfl, _, rfl, ?_⟩
          by_cases h0 : z < 0
          · rw [decide_eq_true h0]
            exact iteT (bad fun ⟨i, e1, e2, e3⟩ => by have := V.int.inj e1; omega)
          · rw [decide_eq_false h0]
            refine iteF ⟨_, rfl, _, rfl, z, m, rfl, rfl, _, rfl, ?_⟩
            by_cases h1 : m ≤ z
            · rw [decide_eq_true h1]
              exact iteT (bad fun ⟨i, e1, e2, e3⟩ => by have := V.int.inj e1; omega)
            · rw [decide_eq_false h1]
              refine iteF ⟨⟨_, rfl⟩, rfl, fun x hx => ?_⟩
              rw [take_snoc hi] at hx
              rcases List.mem_append.mp hx with g | g
              · exact hok x g
              · rw [List.mem_singleton.mp g]; exact ⟨z, rfl, by omega, by omega⟩
        | bl c => exact iteT (bad fun ⟨i, e1, _⟩ => nomatch e1)
        | non => exact iteT (bad fun ⟨i, e1, _⟩ => nomatch e1)
        | str z => exact iteT (bad fun ⟨i, e1, _⟩ => nomatch e1)
        | lst h => exact iteT (bad fun ⟨i, e1, _⟩ => nomatch e1)
        | tup h => exact iteT (bad fun ⟨i, e1, _⟩ => nomatch e1)
      · rintro σ H2 ⟨⟨v, rfl⟩, rfl, hok⟩
        rw [List.take_length] at hok
        exact q hok
end
end DR
namespace DR
open PySem PySem.Spec PyProof.Rows L2
theorem pe_x {X : Cx} {k : Nat} {x : Str} {ps : List Str} {sp : Sp} {W : WX} {p pos : Pos} {e : Expr} {es : List Expr} {t : TA} (C : CalleeX X.prog X.w X.K X.mg X.base k x ps sp) (hr : Room k X.A) (hg : Gl X x) (tk : Takes X W) (ha : PA X (e :: es) t)
    (hdb : (x == ("__debug__" : Str)) = false := by decide) (he : starEach (e :: es) X.env = (false, eval e X.env) :: starEach es X.env := by rfl) (hpl : (backTo pos (starEach es X.env)).any (·.1) = false := by rfl) :
    PE X (.Call (.Name x p) (e :: es) [] pos) (tCallS sp (WE W) t) := by
  obtain ⟨f, fd, h1, h2, h3, h4⟩ := C
  exact pe_callS h4 hr hg h1 h2 h3 (passAt tk) ha hdb he hpl
def BadRow (K : PySem.W.Frag) (H : Hp) (m : Int) (r : V) : Prop := NotL K H r ∨ ∃ a xs, r = .ref a ∧ SqL K H a xs ∧ (∀ x ∈ xs, ∃ b, NumB K H x b) ∧ ∃ x ∈ xs, ¬ FigOk m x
def BadDeeds (K : PySem.W.Frag) (H : Hp) (n : Int) (d : V) : Prop := NotL K H d ∨ ∃ (a : Addr) (xs : List V) (bs : List Bool), d = .ref a ∧ SqL K H a xs ∧ bs.length = xs.length ∧ (∀ (i : Nat) (x : V), xs[i]? = some x → ∃ b, bs[i]? = some b ∧ DeedB K H n x b) ∧ false ∈ bs
def BadSize (K : PySem.W.Frag) (H : Hp) (s : V) : Prop := (∃ b, NumB K H s b) ∧ ∀ m : Int, s = .int m → m < 2
theorem size_bad {K : PySem.W.Frag} {C : Addr} {H : Hp} {Q : VK} {E : XK} {s : V} (h : BadSize K H s) (e : E (.ref C) none H) : spSizeX K C [s] H Q E := by
  obtain ⟨⟨b, hb⟩, h⟩ := h
  exact ⟨s, b, rfl, hb, fun ⟨m, e1, e2⟩ => absurd (h m e1) (by omega), fun _ => e⟩
theorem size_good {K : PySem.W.Frag} {C : Addr} {H : Hp} {Q : VK} {E : XK} {m : Int} (h : 2 ≤ m) (q : Q .non H) : spSizeX K C [.int m] H Q E :=
  ⟨.int m, true, rfl, .int m, fun _ => q, fun f => absurd (f m rfl) (by omega)⟩
theorem row_bad {K : PySem.W.Frag} {C : Addr} {H : Hp} {Q : VK} {E : XK} {m : Int} {r : V} (h : BadRow K H m r) (e : E (.ref C) none H) : spRowX K C [.int m, r] H Q E := by
  refine ⟨m, r, rfl, ?_⟩
  rcases h with h | ⟨a, xs, rfl, hS, hN, x, hx, hb⟩
  · exact .inl ⟨h, e⟩
  · exact .inr ⟨a, xs, rfl, hS, hN, fun g => absurd (g x hx) hb, fun _ => e⟩
theorem row_good {K : PySem.W.Frag} {C : Addr} {H : Hp} {Q : VK} {E : XK} {m : Int} {a : Addr} {ns : List Int} (hS : SqL K H a (ns.map V.int)) (hR : RowOk m ns) (q : Q .non H) : spRowX K C [.int m, .ref a] H Q E := by
  refine ⟨m, .ref a, rfl, .inr ⟨a, _, rfl, hS, fun x hx => ?_, fun _ => q, fun ⟨x, hx, hb⟩ => ?_⟩⟩
  · obtain ⟨z, _, rfl⟩ := List.mem_map.mp hx
    exact ⟨true, .int z⟩
  · obtain ⟨z, hz, rfl⟩ := List.mem_map.mp hx
    obtain ⟨h1, h2⟩ := hR z hz
    exact absurd ⟨z, rfl, h1, h2⟩ hb
def spDeedsX (Tb : List Addr) (K : PySem.W.Frag) (C : Addr) : Sp := fun vs H _ E => ∃ (n : Int) (v : V), vs = [.int n, v] ∧ ((NotL K H v ∧ E (.ref C) none H) ∨ ∃ (a : Addr) (xs : List V) (bs : List Bool), v = .ref a ∧ SqL K H a xs ∧ Looked K H n xs bs ∧ false ∈ bs ∧ Tabs Tb H ∧ ∀ H', Same H H' → E (.ref C) none H')
def spTurnedX (Tb : List Addr) (K : PySem.W.Frag) (Cs Cr Cd : Addr) : Sp := fun vs H _ E => ∃ s r d, vs = [s, r, d] ∧ ((BadSize K H s ∧ E (.ref Cs) none H) ∨ (∃ m, s = .int m ∧ 2 ≤ m ∧ BadRow K H m r ∧ E (.ref Cr) none H) ∨
  ∃ m a ns, s = .int m ∧ 2 ≤ m ∧ r = .ref a ∧ SqL K H a (ns.map V.int) ∧ RowOk m ns ∧ BadDeeds K H ns.length d ∧ Tabs Tb H ∧ ∀ H', Same H H' → E (.ref Cd) none H')
section
variable {P : Program} {w : World} {K : PySem.W.Frag} {mg : Str → Option Value} {base : Heap} {C Cs Cr Cd : Addr} {Tb : List Addr}
theorem ok_deedsX (D : Def K mg "check_deeds" sDeeds ["dials", "deeds"]) (B : Blt mg) (GA : Callee P w K mg base 4 "are_deeds" ["dials", "things"] (spAre Tb K)) (T : ErrCls K mg "BadDeeds" C) : CalleeX P w K mg base 5 "check_deeds" ["dials", "deeds"] (spDeedsX Tb K C) := by
  refine D.okX scDeeds (fun vs H Q E h => ?_) (fun f cdv A outer s H vs Q E hr h => ?_)
  · obtain ⟨n, v, rfl, _⟩ := h
    rfl
  · obtain ⟨n, v, rfl, h⟩ := h
    refine ⟨_, pss_cons (ps_if (pt_not (pt_val (pe_callB call_isi (by rfl) B.isi boot_isinstance (pa_cons (pv 1) (pa_cons (pe_bltn (v := .ty "list") (by rfl) B.list PyProof.Rows.boot_list rfl) pa_nil))))) (pss_one (ps_err T rfl (takes_of rfl rfl rfl rfl) (by rfl))) pss_nil)
      (pss_one (ps_if (pt_not (pt_val (pe_c GA hr (by rfl) (pa_cons (pv 0) (pa_cons (pv 1) pa_nil))))) (pss_one (ps_err T rfl (takes_of rfl rfl rfl rfl) (by rfl))) pss_nil)), ?_⟩
    rcases h with ⟨hn, e⟩ | ⟨a, xs, bs, rfl, hS, hL, hf, hT, e⟩
    · cases hn with
      | int i => exact ⟨_, rfl, ⟨_, _, _, _, false, rfl, .ty _, .base (.int i), kit_ty (by decide +kernel), ⟨false, rfl, iteT e⟩⟩⟩
      | bl b => exact ⟨_, rfl, ⟨_, _, _, _, false, rfl, .ty _, .base (.bl b), kit_ty (by decide +kernel), ⟨false, rfl, iteT e⟩⟩⟩
      | non => exact ⟨_, rfl, ⟨_, _, _, _, false, rfl, .ty _, .base .non, kit_ty (by decide +kernel), ⟨false, rfl, iteT e⟩⟩⟩
      | str z => exact ⟨_, rfl, ⟨_, _, _, _, false, rfl, .ty _, .base (.str z), kit_ty (by decide +kernel), ⟨false, rfl, iteT e⟩⟩⟩
      | tup h => exact ⟨_, rfl, ⟨_, _, _, _, false, rfl, .ty _, ty_tup h, kit_ty (by decide +kernel), ⟨false, rfl, iteT e⟩⟩⟩
    · refine ⟨_, rfl, ⟨_, _, _, _, true, rfl, .ty _, (ty_lst hS), kit_ty (by decide +kernel), ⟨true, rfl, iteF ?_⟩⟩⟩
      refine ⟨_, rfl, _, rfl, n, a, xs, bs, rfl, hS, hT, hL, fun H' s' => ⟨_, rfl, ?_⟩⟩
      rw [List.all_eq_false.mpr ⟨false, hf, by decide⟩]
      exact iteT (e H' s')
theorem ok_turnedX (D : Def K mg "turned" sTurned ["size", "row", "deeds"]) (B : Blt mg) (GS : CalleeX P w K mg base 2 "check_size" ["size"] (spSizeX K Cs)) (GR : CalleeX P w K mg base 2 "check_row" ["size", "row"] (spRowX K Cr)) (GD : CalleeX P w K mg base 5 "check_deeds" ["dials", "deeds"] (spDeedsX Tb K Cd)) :
    CalleeX P w K mg base 6 "turned" ["size", "row", "deeds"] (spTurnedX Tb K Cs Cr Cd) := by
  refine D.okX scTurned (fun vs H Q E h => ?_) (fun f cdv A outer s H vs Q E hr h => ?_)
  · obtain ⟨s, r, d, rfl, _⟩ := h
    rfl
  · obtain ⟨s, r, d, rfl, h⟩ := h
    have hr2 : Room 2 _ := hr.mono (by decide)
    refine ⟨_, pss_cons (ps_expr (pe_x GS hr2 (by rfl) (takes_of rfl rfl rfl rfl) (pa_cons (pv 0) pa_nil)))
      (pss_cons (ps_expr (pe_x GR hr2 (by rfl) (takes_of rfl rfl rfl rfl) (pa_cons (pv 0) (pa_cons (pv 1) pa_nil))))
      (pss_cons (ps_expr (pe_x GD hr (by rfl) (takes_of rfl rfl rfl rfl) (pa_cons (pe_callB call_len_seq (by rfl) B.len PySem.boot_len (pa_cons (pv 1) pa_nil)) (pa_cons (pv 2) pa_nil))))
      (pss_cons (ps_set (i := 3) scTurned.nd rfl (.inl rfl) (pe_op op_rep (pe_lst (pa_cons pe_int pa_nil)) (pe_op op_add (pe_callB call_len_seq (by rfl) B.len PySem.boot_len (pa_cons (pv 1) pa_nil)) pe_int)))
      (pss_cons (ps_for (passes_of rfl) rfl (pi_list (pv 2)) (pg_tup (by rfl) (pgs_cons (pg_name (i := 4) scTurned.nd rfl (.inl rfl)) (pgs_cons (pg_name (i := 5) scTurned.nd rfl (.inl rfl)) (pgs_cons (pg_name (i := 6) scTurned.nd rfl (.inl rfl)) pgs_nil))))
        (pss_cons (ps_augS (pv 3) (pv 4) get_list (pv 6) ip_add set_list) (pss_one (ps_augS (pv 3) (pv 5) get_list (pv 6) ip_sub set_list))))
      (pss_cons (ps_set (i := 7) scTurned.nd rfl (.inl rfl) (pe_lst pa_nil))
      (pss_cons (ps_set (i := 8) scTurned.nd rfl (.inl rfl) pe_int)
      (pss_cons (ps_for (passes_of rfl) rfl (pi_enum (by rfl) B.enumerate (pa_cons (pv 1) pa_nil)) (pg_tup (by rfl) (pgs_cons (pg_name (i := 9) scTurned.nd rfl (.inl rfl)) (pgs_cons (pg_name (i := 10) scTurned.nd rfl (.inl rfl)) pgs_nil)))
        (pss_cons (ps_aug (i := 8) scTurned.nd rfl (.inl rfl) (pe_ix ix_list (pv 3) (pv 9) (fun _ _ => rfl)) ip_add)
        (pss_one (ps_expr (pe_bm PySem.F.plainAttrs_list PySem.F.slot_list_append PySem.F.type_list_append mt_append (pv 7) (pa_cons (pe_op op_mod (pe_op op_add (pv 10) (pv 8)) (pv 0)) pa_nil))))))
      (pss_one (ps_ret (pv 7)))))))))), ?_⟩
    rcases h with ⟨hb, e⟩ | ⟨m, rfl, hm, hb, e⟩ | ⟨m, a, ns, rfl, hm, rfl, hS, hR, hb, hT, e⟩
    · obtain ⟨⟨b, hb⟩, hb2⟩ := hb
      exact ⟨_, rfl, s, b, rfl, hb, fun ⟨m, e1, e2⟩ => absurd (hb2 m e1) (by omega), fun _ => e⟩
    · refine ⟨_, rfl, .int m, true, rfl, .int m, fun _ => ?_, fun f => absurd (f m rfl) (by omega)⟩
      refine ⟨_, rfl, _, rfl, m, r, rfl, ?_⟩
      rcases hb with h | ⟨a, xs, rfl, hS, hN, x, hx, hb⟩
      · exact .inl ⟨h, e⟩
      · exact .inr ⟨a, xs, rfl, hS, hN, fun g => absurd (g x hx) hb, fun _ => e⟩
    · refine ⟨_, rfl, .int m, true, rfl, .int m, fun _ => ?_, fun f => absurd (f m rfl) (by omega)⟩
      refine ⟨_, rfl, _, rfl, m, .ref a, rfl, .inr ⟨a, _, rfl, hS, fun x hx => ?_, fun _ => ?_, fun ⟨x, hx, hb⟩ => ?_⟩⟩
      · obtain ⟨z, _, rfl⟩ := List.mem_map.mp hx
        exact ⟨true, .int z⟩
      · refine ⟨_, rfl, a, _, rfl, .inl hS, _, rfl, _, d, rfl, ?_⟩
        rw [List.length_map]
        rcases hb with h | ⟨b, xs, bs, rfl, hSd, hbl, hN, hf⟩
        · exact .inl ⟨h, e H (Same.refl H)⟩
        · exact .inr ⟨b, xs, bs, rfl, hSd, ⟨hbl, hN⟩, hf, hT, e⟩
      · obtain ⟨z, hz, rfl⟩ := List.mem_map.mp hx
        obtain ⟨h1, h2⟩ := hR z hz
        exact absurd ⟨z, rfl, h1, h2⟩ hb
end
end DR
namespace DR
open PySem PySem.Spec PyProof.Rows L2
def spLevelX (K : PySem.W.Frag) (Cs Cr : Addr) : Sp := fun vs H _ E => ∃ s r, vs = [s, r] ∧ ((BadSize K H s ∧ ∀ H', Same H H' → E (.ref Cs) none H') ∨ (∃ m, s = .int m ∧ 2 ≤ m ∧ BadRow K H m r ∧ ∀ H', Same H H' → E (.ref Cr) none H'))
def spBestX (K : PySem.W.Frag) (Cs Cr Cu : Addr) : Sp := fun vs H _ E => ∃ s one other, vs = [s, one, other] ∧ ((BadSize K H s ∧ ∀ H', Same H H' → E (.ref Cs) none H') ∨ (∃ m, s = .int m ∧ 2 ≤ m ∧ BadRow K H m one ∧ ∀ H', Same H H' → E (.ref Cr) none H') ∨
  (∃ m a xs, s = .int m ∧ 2 ≤ m ∧ one = .ref a ∧ SqL K H a (xs.map V.int) ∧ RowOk m xs ∧ BadRow K H m other ∧ ∀ H', Same H H' → E (.ref Cr) none H') ∨
  (∃ m a b xs ys, s = .int m ∧ 2 ≤ m ∧ one = .ref a ∧ other = .ref b ∧ SqL K H a (xs.map V.int) ∧ SqL K H b (ys.map V.int) ∧ RowOk m xs ∧ RowOk m ys ∧ xs.length ≠ ys.length ∧ ∀ H', Same H H' → E (.ref Cu) none H'))
theorem fig_num {K : PySem.W.Frag} {H : Hp} {ns : List Int} : ∀ x ∈ ns.map V.int, ∃ b, NumB K H x b := fun x hx => by
  obtain ⟨z, _, rfl⟩ := List.mem_map.mp hx
  exact ⟨true, .int z⟩
theorem fig_ok {m : Int} {ns : List Int} (h : RowOk m ns) : ¬ ∃ x ∈ ns.map V.int, ¬ FigOk m x := fun ⟨x, hx, hb⟩ => by
  obtain ⟨z, hz, rfl⟩ := List.mem_map.mp hx
  obtain ⟨h1, h2⟩ := h z hz
  exact hb ⟨z, rfl, h1, h2⟩
section
variable {P : Program} {w : World} {K : PySem.W.Frag} {mg : Str → Option Value} {base : Heap} {C Cs Cr Cu : Addr} {Tb : List Addr}
theorem ok_rowsX (D : Def K mg "check_rows" sRows ["size", "one", "other"]) (B : Blt mg) (GS : CalleeX P w K mg base 2 "check_size" ["size"] (spSizeX K Cs)) (GR : CalleeX P w K mg base 2 "check_row" ["size", "row"] (spRowX K Cr)) (T : ErrCls K mg "Unlike" Cu) :
    CalleeX P w K mg base 3 "check_rows" ["size", "one", "other"] (spBestX K Cs Cr Cu) := by
  refine D.okX scRows (fun vs H Q E h => ?_) (fun f cdv A outer s H vs Q E hr h => ?_)
  · obtain ⟨s, r, d, rfl, _⟩ := h
    rfl
  · obtain ⟨s, r, d, rfl, h⟩ := h
    refine ⟨_, pss_cons (ps_expr (pe_x GS hr (by rfl) (takes_of rfl rfl rfl rfl) (pa_cons (pv 0) pa_nil)))
      (pss_cons (ps_expr (pe_x GR hr (by rfl) (takes_of rfl rfl rfl rfl) (pa_cons (pv 0) (pa_cons (pv 1) pa_nil))))
      (pss_cons (ps_expr (pe_x GR hr (by rfl) (takes_of rfl rfl rfl rfl) (pa_cons (pv 0) (pa_cons (pv 2) pa_nil))))
      (pss_one (ps_if (pt_cmpR op_ne (pe_callB call_len_seq (by rfl) B.len PySem.boot_len (pa_cons (pv 1) pa_nil)) (pe_callB call_len_seq (by rfl) B.len PySem.boot_len (pa_cons (pv 2) pa_nil)) (nomark _)) (pss_one (ps_err T rfl (takes_of rfl rfl rfl rfl) (by rfl))) pss_nil)))), ?_⟩
    rcases h with ⟨hb, e⟩ | ⟨m, rfl, hm, hb, e⟩ | ⟨m, a, xs, rfl, hm, rfl, hS, hR, hb, e⟩ | ⟨m, a, b, xs, ys, rfl, hm, rfl, rfl, hA, hB, hx, hy, hne, e⟩
    · obtain ⟨⟨bb, hb1⟩, hb2⟩ := hb
      exact ⟨_, rfl, s, bb, rfl, hb1, fun ⟨m, e1, e2⟩ => absurd (hb2 m e1) (by omega), fun _ => e H (Same.refl H)⟩
    · refine ⟨_, rfl, .int m, true, rfl, .int m, fun _ => ?_, fun f => absurd (f m rfl) (by omega)⟩
      refine ⟨_, rfl, _, rfl, m, r, rfl, ?_⟩
      rcases hb with h | ⟨a, xs, rfl, hS, hN, x, hx, hb⟩
      · exact .inl ⟨h, e H (Same.refl H)⟩
      · exact .inr ⟨a, xs, rfl, hS, hN, fun g => absurd (g x hx) hb, fun _ => e H (Same.refl H)⟩
    · refine ⟨_, rfl, .int m, true, rfl, .int m, fun _ => ?_, fun f => absurd (f m rfl) (by omega)⟩
      refine ⟨_, rfl, _, rfl, m, .ref a, rfl, .inr ⟨a, _, rfl, hS, fig_num, fun _ => ?_, fun z => absurd z (fig_ok hR)⟩⟩
      refine ⟨_, rfl, _, rfl, m, d, rfl, ?_⟩
      rcases hb with h | ⟨a, xs, rfl, hS, hN, x, hx, hb⟩
      · exact .inl ⟨h, e H (Same.refl H)⟩
      · exact .inr ⟨a, xs, rfl, hS, hN, fun g => absurd (g x hx) hb, fun _ => e H (Same.refl H)⟩
    · refine ⟨_, rfl, .int m, true, rfl, .int m, fun _ => ?_, fun f => absurd (f m rfl) (by omega)⟩
      refine ⟨_, rfl, _, rfl, m, .ref a, rfl, .inr ⟨a, _, rfl, hA, fig_num, fun _ => ?_, fun z => absurd z (fig_ok hx)⟩⟩
      refine ⟨_, rfl, _, rfl, m, .ref b, rfl, .inr ⟨b, _, rfl, hB, fig_num, fun _ => ?_, fun z => absurd z (fig_ok hy)⟩⟩
      refine ⟨_, rfl, a, _, rfl, .inl hA, _, rfl, b, _, rfl, .inl hB, rfl, _, rfl, ?_⟩
      rw [decide_eq_false (fun z => hne (by have := V.int.inj z; rw [List.length_map, List.length_map] at this; omega))]
      exact iteT (e H (Same.refl H))
theorem ok_bestX (D : Def K mg "best" sBest ["size", "one", "other"]) (B : Blt mg) (T : BestCls K mg C) (GR : CalleeX P w K mg base 3 "check_rows" ["size", "one", "other"] (spBestX K Cs Cr Cu)) (GG : Callee P w K mg base 1 "gaps_between" ["size", "one", "other"] (spGaps K))
    (GL : Callee P w K mg base 1 "least_changes" ["size", "gaps"] (spLeast K)) (GO : Callee P w K mg base 1 "deeds_over" ["changes"] (spOver K)) (GK : Makes P w K mg base 1 C ["self", "deeds", "mark"] (spInit K C)) :
    CalleeX P w K mg base 4 "best" ["size", "one", "other"] (spBestX K Cs Cr Cu) := by
  refine D.okX scBest (fun vs H Q E h => ?_) (fun f cdv A outer s H vs Q E hr h => ?_)
  · obtain ⟨s, r, d, rfl, _⟩ := h
    rfl
  · have h0 := h
    obtain ⟨s, r, d, rfl, _⟩ := h
    have hr1 : Room 1 _ := hr.mono (by decide)
    have hr2 : Room 2 _ := hr.mono (by decide)
    refine ⟨_, pss_cons (ps_expr (pe_x GR hr (by rfl) (takes_of rfl rfl rfl rfl) (pa_cons (pv 0) (pa_cons (pv 1) (pa_cons (pv 2) pa_nil)))))
      (pss_cons (ps_asg (pe_c GL hr1 (by rfl) (pa_cons (pv 0) (pa_cons (pe_c GG hr1 (by rfl) (pa_cons (pv 0) (pa_cons (pv 1) (pa_cons (pv 2) pa_nil)))) pa_nil))) (pg_tup (by rfl) (pgs_cons (pg_name (i := 3) scBest.nd rfl (.inl rfl)) (pgs_cons (pg_name (i := 4) scBest.nd rfl (.inl rfl)) pgs_nil))))
      (pss_one (ps_ret (pe_k GK hr2 (by rfl) T.g (pa_cons (pe_c GO hr1 (by rfl) (pa_cons (pv 3) pa_nil)) (pa_cons (pv 4) pa_nil)))))), ?_⟩
    exact ⟨_, rfl, _, rfl, _, rfl, h0⟩
theorem ok_apartX (D : Def K mg "apart" sApart ["size", "one", "other"]) (T : BestCls K mg C) (GB : CalleeX P w K mg base 4 "best" ["size", "one", "other"] (spBestX K Cs Cr Cu)) (GS : Callee P w K mg base 2 "steps_of" ["deeds"] (spSteps Tb K)) :
    CalleeX P w K mg base 5 "apart" ["size", "one", "other"] (spBestX K Cs Cr Cu) := by
  refine D.okX scApart (fun vs H Q E h => ?_) (fun f cdv A outer s H vs Q E hr h => ?_)
  · obtain ⟨s, r, d, rfl, _⟩ := h
    rfl
  · have h0 := h
    obtain ⟨s, r, d, rfl, _⟩ := h
    have hr2 : Room 2 _ := hr.mono (by decide)
    refine ⟨_, pss_one (ps_ret (pe_c GS hr2 (by rfl) (pa_cons (pe_fld (pe_x GB hr (by rfl) (takes_of rfl rfl rfl rfl) (pa_cons (pv 0) (pa_cons (pv 1) (pa_cons (pv 2) pa_nil)))) rfl) pa_nil))), ?_⟩
    exact ⟨_, rfl, _, rfl, _, rfl, h0⟩
theorem ok_levelX (D : Def K mg "level" sLevel ["size", "row"]) (B : Blt mg) (GS : CalleeX P w K mg base 2 "check_size" ["size"] (spSizeX K Cs)) (GR : CalleeX P w K mg base 2 "check_row" ["size", "row"] (spRowX K Cr)) (GB : Callee P w K mg base 4 "best" ["size", "one", "other"] (spBest Tb K C)) :
    CalleeX P w K mg base 5 "level" ["size", "row"] (spLevelX K Cs Cr) := by
  refine D.okX scLevel (fun vs H Q E h => ?_) (fun f cdv A outer s H vs Q E hr h => ?_)
  · obtain ⟨s, r, rfl, _⟩ := h
    rfl
  · obtain ⟨s, r, rfl, h⟩ := h
    have hr2 : Room 2 _ := hr.mono (by decide)
    refine ⟨_, pss_cons (ps_expr (pe_x GS hr2 (by rfl) (takes_of rfl rfl rfl rfl) (pa_cons (pv 0) pa_nil)))
      (pss_cons (ps_expr (pe_x GR hr2 (by rfl) (takes_of rfl rfl rfl rfl) (pa_cons (pv 0) (pa_cons (pv 1) pa_nil))))
      (pss_one (ps_ret (pe_c GB hr (by rfl) (pa_cons (pv 0) (pa_cons (pv 1) (pa_cons (pe_op op_rep (pe_slice sl_list (pv 1) po_none (po_some pe_int)) (pe_callB call_len_seq (by rfl) B.len PySem.boot_len (pa_cons (pv 1) pa_nil))) pa_nil))))))), ?_⟩
    rcases h with ⟨hb, e⟩ | ⟨m, rfl, hm, hb, e⟩
    · obtain ⟨⟨bb, hb1⟩, hb2⟩ := hb
      exact ⟨_, rfl, s, bb, rfl, hb1, fun ⟨m, e1, e2⟩ => absurd (hb2 m e1) (by omega), fun _ => e H (Same.refl H)⟩
    · refine ⟨_, rfl, .int m, true, rfl, .int m, fun _ => ?_, fun f => absurd (f m rfl) (by omega)⟩
      refine ⟨_, rfl, _, rfl, m, r, rfl, ?_⟩
      rcases hb with h | ⟨a, xs, rfl, hS, hN, x, hx, hb⟩
      · exact .inl ⟨h, e H (Same.refl H)⟩
      · exact .inr ⟨a, xs, rfl, hS, hN, fun g => absurd (g x hx) hb, fun _ => e H (Same.refl H)⟩
end
theorem CalleeX.mono {P : Program} {w : World} {K : PySem.W.Frag} {mg : Str → Option Value} {base : Heap} {j k : Nat} {x : Str} {ps : List Str} {sp : Sp} (C : CalleeX P w K mg base j x ps sp) (h : j ≤ k) : CalleeX P w K mg base k x ps sp := by
  obtain ⟨f, fd, h1, h2, h3, h4⟩ := C
  exact ⟨f, fd, h1, h2, h3, h4.mono h⟩
end DR
namespace DR
open PySem PySem.Spec PyProof.Rows L2
def spAskX (spT spL spB spA : Sp) : Sp := fun vs H Q E => ∃ (d : Int) (s one other : V), vs = [.int d, s, one, other] ∧ ((d = 0 ∧ spT [s, one, other] H Q E) ∨ (d = 1 ∧ spL [s, one] H Q E) ∨ (d = 2 ∧ spB [s, one, other] H Q E) ∨ (d = 3 ∧ spA [s, one, other] H Q E))
section
variable {P : Program} {w : World} {K : PySem.W.Frag} {mg : Str → Option Value} {base : Heap} {spT spL spB spA : Sp}
theorem scLAsk : FnScope ["_law_door", "_law_size", "_law_one", "_law_other"] ["_law_door", "_law_size", "_law_one", "_law_other"] (defScope lAsk) := ⟨rfl, rfl, rfl, by decide +kernel, rfl, by decide +kernel, by decide +kernel⟩
theorem ok_lAsk (D : Def K mg "_law_ask" lAsk ["_law_door", "_law_size", "_law_one", "_law_other"]) (GT : CalleeX P w K mg base 10 "turned" ["size", "row", "deeds"] spT) (GL : CalleeX P w K mg base 10 "level" ["size", "row"] spL)
    (GB : CalleeX P w K mg base 10 "best" ["size", "one", "other"] spB) (GA : CalleeX P w K mg base 10 "apart" ["size", "one", "other"] spA) : CalleeX P w K mg base 11 "_law_ask" ["_law_door", "_law_size", "_law_one", "_law_other"] (spAskX spT spL spB spA) := by
  refine D.okX scLAsk (fun vs H Q E h => ?_) (fun f cdv A outer s H vs Q E hr h => ?_)
  · obtain ⟨d, s, one, other, rfl, _⟩ := h
    rfl
  · obtain ⟨d, s, one, other, rfl, h⟩ := h
    refine ⟨_, pss_cons (ps_if (pt_cmpR op_lt (pv 0) pe_int (nomark _)) (pss_one (ps_ret (pe_ifExp (pt_cmpR op_eq (pv 0) pe_int (nomark _)) (pe_x GT hr (by rfl) (takes_of rfl rfl rfl rfl) (pa_cons (pv 1) (pa_cons (pv 2) (pa_cons (pv 3) pa_nil)))) (pe_x GL hr (by rfl) (takes_of rfl rfl rfl rfl) (pa_cons (pv 1) (pa_cons (pv 2) pa_nil)))))) pss_nil)
      (pss_one (ps_ret (pe_ifExp (pt_cmpR op_eq (pv 0) pe_int (nomark _)) (pe_x GB hr (by rfl) (takes_of rfl rfl rfl rfl) (pa_cons (pv 1) (pa_cons (pv 2) (pa_cons (pv 3) pa_nil)))) (pe_x GA hr (by rfl) (takes_of rfl rfl rfl rfl) (pa_cons (pv 1) (pa_cons (pv 2) (pa_cons (pv 3) pa_nil))))))), ?_⟩
    rcases h with ⟨rfl, h⟩ | ⟨rfl, h⟩ | ⟨rfl, h⟩ | ⟨rfl, h⟩
    · exact ⟨_, rfl, 0, 2, rfl, rfl, _, rfl, iteT ⟨_, rfl, rfl, _, rfl, iteT ⟨_, rfl, _, rfl, _, rfl, h⟩⟩⟩
    · exact ⟨_, rfl, 1, 2, rfl, rfl, _, rfl, iteT ⟨_, rfl, rfl, _, rfl, iteF ⟨_, rfl, _, rfl, h⟩⟩⟩
    · exact ⟨_, rfl, 2, 2, rfl, rfl, _, rfl, iteF ⟨_, rfl, rfl, _, rfl, iteT ⟨_, rfl, _, rfl, _, rfl, h⟩⟩⟩
    · exact ⟨_, rfl, 3, 2, rfl, rfl, _, rfl, iteF ⟨_, rfl, rfl, _, rfl, iteF ⟨_, rfl, _, rfl, _, rfl, h⟩⟩⟩
end
end DR
namespace DR
open PySem PySem.Spec PyProof.Rows L2
/-! ### of which class an error is that a suite holds -/
def tIsE (K : PySem.W.Frag) (a : Addr) (cls : Value) (d : Option Addr) (ta : TA) : TE := fun σ H Q => ∃ D, cls = .ref D ∧ d = none ∧ ExcC K D ∧ tCB (rIsE K D a) ta σ H Q
theorem pe_isE {X : Cx} {a : Addr} {oe : Obj} {cls : Value} {d : Option Addr} {pn : List (Addr × Obj)} {e : Expr} {es : List Expr} {ta : TA} {p pos : Pos} (hz : Zc cls d oe) (hf : ∃ vs, oe.data = .fields vs) (hg : Gl (X.suite a ((a, oe) :: pn)) "isinstance") (hm : X.mg "isinstance" = none)
    (ha : PA (X.suite a ((a, oe) :: pn)) (e :: es) ta) (he : starEach (e :: es) X.env = (false, eval e X.env) :: starEach es X.env := by rfl) (hpl : (backTo pos (starEach es X.env)).any (·.1) = false := by rfl) : PE (X.suite a ((a, oe) :: pn)) (.Call (.Name "isinstance" p) (e :: es) [] pos) (tIsE X.K a cls d ta) :=
  ⟨fun pins s σ H Q I ⟨D, e1, e2, C, h⟩ => by
    subst e1 e2
    exact (pe_callB (X := X.suite a ((a, oe) :: pn)) (call_isE C hz hf) hg hm boot_isinstance ha (by decide) (by decide) he hpl).run pins s σ H Q I h⟩
end DR
namespace DR
open PySem PySem.Spec PyProof.Rows L2
theorem ite_no {c : Bool} {A B : Prop} (h : c = false) (hb : B) : if c = true then A else B := by rw [h]; exact iteF hb
theorem ite_yes {c : Bool} {A B : Prop} (h : c = true) (ha : A) : if c = true then A else B := by rw [h]; exact iteT ha
theorem int_no {a b : Int} (h : a ≠ b) : decide (V.int a = V.int b) = false := decide_eq_false fun e => h (V.int.inj e)
/-- what is known of an error's class at C -/
structure ErrFacts (K : PySem.W.Frag) (CD Cs Cr Cd Cu C : Addr) (b1 b2 b3 b4 : Bool) : Prop where
  ex : ExcC K C
  exm : PySem.W.exmOne K (.ref C) (.ref CD) = some true
  k1 : PySem.W.kitOne K (.ref C) (.ref Cs) = some b1
  k2 : PySem.W.kitOne K (.ref C) (.ref Cr) = some b2
  k3 : PySem.W.kitOne K (.ref C) (.ref Cd) = some b3
  k4 : PySem.W.kitOne K (.ref C) (.ref Cu) = some b4
  k5 : PySem.W.kitOne K (.ref C) (.type "ValueError") = some true
def tSuite (K : PySem.W.Frag) (Cs Cr Cd Cu : Addr) : Addr → Value → Option Addr → TS := fun a cls d =>
  tSeq (tAsg (tLst (tCons (tIsE K a cls d (tCons (tVar 6) (tCons (tC (.ref Cs)) tNil))) (tCons (tIsE K a cls d (tCons (tVar 6) (tCons (tC (.ref Cr)) tNil))) (tCons (tIsE K a cls d (tCons (tVar 6) (tCons (tC (.ref Cd)) tNil))) tNil)))) (gName 7))
    (tRet (tOp rCat (tVar 7) (tLst (tCons (tIsE K a cls d (tCons (tVar 6) (tCons (tC (.ref Cu)) tNil))) (tCons (tIsE K a cls d (tCons (tVar 6) (tCons (tC (.ty "ValueError")) tNil))) tNil)))))
theorem suite_ok {K : PySem.W.Frag} {CD Cs Cr Cd Cu C a : Addr} {b1 b2 b3 b4 : Bool} (F : ErrFacts K CD Cs Cr Cd Cu C b1 b2 b3 b4) {D : Ends} {H : Hp} {s0 s1 s2 s3 s4 s5 s7 s8 : Option V}
    (q : ∀ H' p, Same H H' → H' p = some (.lst [.bl b1, .bl b2, .bl b3, .bl b4, .bl true]) → D.rt (.ref p) H') : tSuite K Cs Cr Cd Cu a (.ref C) none D [s0, s1, s2, s3, s4, s5, some (.ref a), s7, s8] H := by
  refine ⟨C, rfl, rfl, F.ex, _, rfl, .ref Cs, .ref Cs, b1, rfl, fun u h => h, F.k1, C, rfl, rfl, F.ex, _, rfl, .ref Cr, .ref Cr, b2, rfl, fun u h => h, F.k2, C, rfl, rfl, F.ex, _, rfl, .ref Cd, .ref Cd, b3, rfl, fun u h => h, F.k3, (by show 3 ≤ sizeLine; decide), fun l hl => ?_⟩
  have w1 : Same H (upd H l (.lst [.bl b1, .bl b2, .bl b3])) := same_new hl
  have e1 : (upd H l (.lst [.bl b1, .bl b2, .bl b3])) l = some (.lst [.bl b1, .bl b2, .bl b3]) := upd_same
  generalize upd H l (.lst [.bl b1, .bl b2, .bl b3]) = H1 at w1 e1 ⊢
  refine ⟨_, rfl, C, rfl, rfl, F.ex, _, rfl, .ref Cu, .ref Cu, b4, rfl, fun u h => h, F.k4, C, rfl, rfl, F.ex, _, rfl, .ty "ValueError", .type "ValueError", true, rfl, fun u h => h, F.k5, (by show 2 ≤ sizeLine; decide), fun m hm => ?_⟩
  have w2 : Same H1 (upd H1 m (.lst [.bl b4, .bl true])) := same_new hm
  have e2 : (upd H1 m (.lst [.bl b4, .bl true])) m = some (.lst [.bl b4, .bl true]) := upd_same
  generalize upd H1 m (.lst [.bl b4, .bl true]) = H2 at w2 e2 ⊢
  refine ⟨l, m, _, _, rfl, rfl, w2 _ _ e1, e2, (by show 5 ≤ sizeLine; decide), fun p hp => ?_⟩
  exact q _ p ((w1.trans w2).trans (same_new hp)) upd_same
def spKind (Tb : List Addr) (n : Int) (C : Addr) : Sp := fun vs H _ E => ∃ w r : Int, vs = [.int w, .int r] ∧ 0 ≤ w ∧ 0 ≤ r ∧ r < 1000 ∧ Tabs Tb H ∧ ∀ H', Same H H' → E (.ref C) none H'
def spTold (Tb : List Addr) : Sp := fun vs H Q _ => ∃ κ w r : Int, vs = [.int κ, .int w, .int r] ∧ 0 ≤ κ ∧ κ < 4 ∧ 0 ≤ w ∧ 0 ≤ r ∧ r < 1000 ∧ Tabs Tb H ∧
  ∀ H' p, Same H H' → H' p = some (.lst [.bl (decide (κ = 0)), .bl (decide (κ = 1)), .bl (decide (κ = 2)), .bl (decide (κ = 3)), .bl true]) → Q (.ref p) H'
section
variable {P : Program} {w : World} {K : PySem.W.Frag} {mg : Str → Option Value} {base : Heap} {CD Cs Cr Cd Cu : Addr} {Tb : List Addr}
abbrev NLTold : List Str := ["_law_kind", "_law_which", "_law_more", "_law_bad", "_law_one", "_law_other", "error", "_law_found", "_law_dial"]
theorem scLTold : FnScope NLTold ["_law_kind", "_law_which", "_law_more"] (defScope lTold) := ⟨rfl, rfl, rfl, by decide +kernel, rfl, by decide +kernel, by decide +kernel⟩
theorem ok_lTold (D : Def K mg "_law_told" lTold ["_law_kind", "_law_which", "_law_more"]) (B : Blt mg) (gD : mg "DialError" = some (.ref CD)) (gs : mg "BadSize" = some (.ref Cs)) (gr : mg "BadRow" = some (.ref Cr)) (gd : mg "BadDeeds" = some (.ref Cd)) (gu : mg "Unlike" = some (.ref Cu)) (gv : mg "ValueError" = none)
    (F1 : ErrFacts K CD Cs Cr Cd Cu Cs true false false false) (F2 : ErrFacts K CD Cs Cr Cd Cu Cr false true false false) (F3 : ErrFacts K CD Cs Cr Cd Cu Cd false false true false) (F4 : ErrFacts K CD Cs Cr Cd Cu Cu false false false true)
    (GA : CalleeX P w K mg base 11 "_law_ask" ["_law_door", "_law_size", "_law_one", "_law_other"] (spAskX (spTurnedX Tb K Cs Cr Cd) (spLevelX K Cs Cr) (spBestX K Cs Cr Cu) (spBestX K Cs Cr Cu)))
    (GR : CalleeX P w K mg base 12 "_law_rows_asked" ["_law_which", "_law_more"] (spKind Tb 1 Cr)) (GE : CalleeX P w K mg base 12 "_law_deeds_asked" ["_law_which", "_law_more"] (spKind Tb 2 Cd)) : Callee P w K mg base 13 "_law_told" ["_law_kind", "_law_which", "_law_more"] (spTold Tb) := by
  refine D.ok scLTold (fun vs H Q E h => ?_) (fun f cdv A outer s H vs Q E hr h => ?_)
  · obtain ⟨κ, w', r, rfl, _⟩ := h
    rfl
  · obtain ⟨κ, w', r, rfl, h0, h4, hw, hr0, hr1, hTb, q⟩ := h
    have hr2 : Room 11 _ := hr.mono (by decide)
    refine ⟨_, (pss_cons (ps_try_as (i := 6) (ts := tSuite K Cs Cr Cd Cu) (Wout := fun _ _ _ _ => False) rfl rfl scLTold.nd rfl rfl ⟨by rfl, by decide, .inl gD⟩ takes0
      (fun W pn xe tk _ => (pss_one (ps_if (pt_cmpR op_eq (pv 0) pe_int (nomark _)) (pss_cons (ps_set (i := 3) scLTold.nd rfl (.inl rfl) (pe_ix (r := rIxL K) ix_list (pe_lst (pa_cons pe_non (pa_cons pe_int (pa_cons pe_int (pa_cons (pe_op op_sub (pe_un un_neg pe_int) (pv 2)) (pa_cons pe_bl (pa_cons pe_str (pa_cons (pe_lst (pa_cons pe_int pa_nil)) (pa_cons (pe_tup (pa_cons pe_int pa_nil)) pa_nil))))))))) (pe_op op_mod (pv 1) pe_int) (fun _ _ => rfl)))
          (pss_one (ps_expr (pe_x GA hr2 (by rfl) tk (pa_cons (pe_op op_mod (pe_op op_fdiv (pv 1) pe_int) pe_int) (pa_cons (pv 3) (pa_cons pe_non (pa_cons pe_non pa_nil))))))))
        (pss_one (ps_if (pt_cmpR op_eq (pv 0) pe_int (nomark _)) (pss_one (ps_expr (pe_x GR hr (by rfl) tk (pa_cons (pv 1) (pa_cons (pv 2) pa_nil)))))
        (pss_one (ps_if (pt_cmpR op_eq (pv 0) pe_int (nomark _)) (pss_one (ps_expr (pe_x GE hr (by rfl) tk (pa_cons (pv 1) (pa_cons (pv 2) pa_nil)))))
        (pss_cons (ps_setLc (i := 4) (own := [("_law_dial", 8)]) (g := gName 8) (tt := tYes) rfl scLTold.nd rfl rfl (sw_true rfl rfl rfl (by decide +kernel)) (pi_range1 (by rfl) B.range (pa_cons (pe_op op_mod (pv 2) pe_int) pa_nil)) (blkOk_by (N := NLTold) (sc := defScope lTold) (by decide +kernel)) (fun _ _ _ _ _ => pg_name (i := 8) scLTold.nd rfl (.inl rfl)) (fun _ _ _ _ _ => pts_nil) (fun _ _ _ _ _ => pe_int))
          (pss_cons (ps_setLc (i := 5) (own := [("_law_dial", 8)]) (g := gName 8) (tt := tYes) rfl scLTold.nd rfl rfl (sw_true rfl rfl rfl (by decide +kernel)) (pi_range1 (by rfl) B.range (pa_cons (pe_op op_add (pe_op op_add (pe_op op_mod (pv 2) pe_int) pe_int) (pe_op op_mod (pe_op op_fdiv (pv 1) pe_int) pe_int)) pa_nil)) (blkOk_by (N := NLTold) (sc := defScope lTold) (by decide +kernel)) (fun _ _ _ _ _ => pg_name (i := 8) scLTold.nd rfl (.inl rfl)) (fun _ _ _ _ _ => pts_nil) (fun _ _ _ _ _ => pe_int))
          (pss_one (ps_if (pt_cmpR op_lt (pe_op op_mod (pv 1) pe_int) pe_int (nomark _)) (pss_one (ps_expr (pe_x GA hr2 (by rfl) tk (pa_cons (pe_op op_add pe_int (pe_op op_mod (pv 1) pe_int)) (pa_cons pe_int (pa_cons (pv 4) (pa_cons (pv 5) pa_nil))))))) (pss_one (ps_expr (pe_x GA hr2 (by rfl) tk (pa_cons (pe_op op_add pe_int (pe_op op_mod (pv 1) pe_int)) (pa_cons pe_int (pa_cons (pv 5) (pa_cons (pv 4) pa_nil))))))))))))))))))
      (fun a oe cls d pn hz hf => (pss_cons (ps_set (i := 7) scLTold.nd rfl (.inl rfl) (pe_lst (pa_cons (pe_isE hz hf (by rfl) B.isi (pa_cons (pv 6) (pa_cons (pe_glob (v := .ref Cs) (by rfl) gs rfl) pa_nil))) (pa_cons (pe_isE hz hf (by rfl) B.isi (pa_cons (pv 6) (pa_cons (pe_glob (v := .ref Cr) (by rfl) gr rfl) pa_nil))) (pa_cons (pe_isE hz hf (by rfl) B.isi (pa_cons (pv 6) (pa_cons (pe_glob (v := .ref Cd) (by rfl) gd rfl) pa_nil))) pa_nil)))))
          (pss_one (ps_ret (pe_op op_cat (pv 7) (pe_lst (pa_cons (pe_isE hz hf (by rfl) B.isi (pa_cons (pv 6) (pa_cons (pe_glob (v := .ref Cu) (by rfl) gu rfl) pa_nil))) (pa_cons (pe_isE hz hf (by rfl) B.isi (pa_cons (pv 6) (pa_cons (pe_bltn (v := .ty "ValueError") (by rfl) gv (by rfl) rfl) pa_nil))) pa_nil)))))))))
          (pss_one (ps_ret (pe_lst pa_nil)))), ?_⟩
    have land : ∀ (C : Addr) (b1 b2 b3 b4 : Bool) (s0 s1 s2 s3 s4 s5 : Option V) (H' : Hp), ErrFacts K CD Cs Cr Cd Cu C b1 b2 b3 b4 → Same H H' → b1 = decide (κ = 0) → b2 = decide (κ = 1) → b3 = decide (κ = 2) → b4 = decide (κ = 3) → ∀ (D' : Ends), D'.rt = Q →
        wAs K (.ref CD) 6 (tSuite K Cs Cr Cd Cu) (fun _ _ _ _ => False) D' (.ref C) none [s0, s1, s2, s3, s4, s5, none, none, none] H' := by
      intro C b1 b2 b3 b4 s0 s1 s2 s3 s4 s5 H' F sm z1 z2 z3 z4 D' hD
      refine ⟨true, F.exm, fun _ a _ => suite_ok F fun H2 p s2 hp => ?_, fun e => Bool.noConfusion e⟩
      show D'.rt (.ref p) H2
      rw [hD]
      subst z1 z2 z3 z4
      exact q _ _ (sm.trans s2) hp
    rcases (show κ = 0 ∨ κ = 1 ∨ κ = 2 ∨ κ = 3 by omega) with e | e | e | e <;> subst e
    · refine ⟨_, rfl, rfl, _, rfl, ite_yes (decide_eq_true rfl) ?_⟩
      refine ⟨1, rfl, _, rfl, _, _, rfl, rfl, (by show 1 ≤ sizeLine; decide), fun l hl => ⟨(by show 1 ≤ sizeLine; decide), fun t ht => ?_⟩⟩
      have w1 : Same H (upd H l (.lst [.int 10])) := same_new hl
      have e1 : (upd H l (.lst [.int 10])) l = some (.lst [.int 10]) := upd_same
      generalize upd H l (.lst [.int 10]) = H1 at w1 e1 ht ⊢
      have w2 : Same H1 (upd H1 t (.tup [.int 10])) := same_new ht
      have e2 : (upd H1 t (.tup [.int 10])) t = some (.tup [.int 10]) := upd_same
      have e12 := w2 _ _ e1
      generalize upd H1 t (.tup [.int 10]) = H2 at w2 e2 e12 ⊢
      refine ⟨(by show 8 ≤ sizeLine; decide), fun L hL => ?_⟩
      have w3 : Same H2 (upd H2 L (.lst [.non, .int 1, .int 0, .int (-1 - r), .bl true, .str "10", .ref l, .ref t])) := same_new hL
      have e3 : (upd H2 L (.lst [.non, .int 1, .int 0, .int (-1 - r), .bl true, .str "10", .ref l, .ref t])) L = some (.lst [.non, .int 1, .int 0, .int (-1 - r), .bl true, .str "10", .ref l, .ref t]) := upd_same
      have e13 := w3 _ _ e12
      have e23 := w3 _ _ e2
      generalize upd H2 L (.lst [.non, .int 1, .int 0, .int (-1 - r), .bl true, .str "10", .ref l, .ref t]) = H3 at w3 e3 e13 e23 ⊢
      have s03 := (w1.trans w2).trans w3
      have hv : ∃ v, atI [.non, .int 1, .int 0, .int (-1 - r), .bl true, .str "10", .ref l, .ref t] (w' % 8) = some v ∧ BadSize K H3 v := by
        have h1 := Int.emod_nonneg w' (show (8 : Int) ≠ 0 by decide)
        have h2 := Int.emod_lt_of_pos w' (show (0 : Int) < 8 by decide)
        rcases (show w' % 8 = 0 ∨ w' % 8 = 1 ∨ w' % 8 = 2 ∨ w' % 8 = 3 ∨ w' % 8 = 4 ∨ w' % 8 = 5 ∨ w' % 8 = 6 ∨ w' % 8 = 7 by omega) with e | e | e | e | e | e | e | e <;> rw [e]
        · exact ⟨_, atI_nat (j := 0) rfl, ⟨_, .non⟩, fun m h => nomatch h⟩
        · exact ⟨_, atI_nat (j := 1) rfl, ⟨_, .int _⟩, fun m h => by have := V.int.inj h; omega⟩
        · exact ⟨_, atI_nat (j := 2) rfl, ⟨_, .int _⟩, fun m h => by have := V.int.inj h; omega⟩
        · exact ⟨_, atI_nat (j := 3) rfl, ⟨_, .int _⟩, fun m h => by have := V.int.inj h; omega⟩
        · exact ⟨_, atI_nat (j := 4) rfl, ⟨_, .bl _⟩, fun m h => nomatch h⟩
        · exact ⟨_, atI_nat (j := 5) rfl, ⟨_, .str _⟩, fun m h => nomatch h⟩
        · exact ⟨_, atI_nat (j := 6) rfl, ⟨_, .lst (SqL.of e13)⟩, fun m h => nomatch h⟩
        · exact ⟨_, atI_nat (j := 7) rfl, ⟨_, .tup (SqT.of e23)⟩, fun m h => nomatch h⟩
      obtain ⟨v, hv, hb⟩ := hv
      refine ⟨_, rfl, _, 8, rfl, rfl, (by show (0 : Int) < 8; decide), L, _, _, v, rfl, rfl, SqL.of e3, hv, ?_⟩
      refine ⟨_, rfl, _, 8, rfl, rfl, ⟨by decide, by decide⟩, _, 4, rfl, rfl, (by show (0 : Int) < 4; decide), _, rfl, _, v, .non, .non, rfl, ?_⟩
      have h1 := Int.emod_nonneg (w' / 8) (show (4 : Int) ≠ 0 by decide)
      have h2 := Int.emod_lt_of_pos (w' / 8) (show (0 : Int) < 4 by decide)
      rcases (show w' / 8 % 4 = 0 ∨ w' / 8 % 4 = 1 ∨ w' / 8 % 4 = 2 ∨ w' / 8 % 4 = 3 by omega) with e | e | e | e
      · exact .inl ⟨e, v, .non, .non, rfl, .inl ⟨hb, land Cs _ _ _ _ _ _ _ _ _ _ H3 F1 s03 rfl rfl rfl rfl _ rfl⟩⟩
      · exact .inr (.inl ⟨e, v, .non, rfl, .inl ⟨hb, fun H4 s4 => land Cs _ _ _ _ _ _ _ _ _ _ H4 F1 (s03.trans s4) rfl rfl rfl rfl _ rfl⟩⟩)
      · exact .inr (.inr (.inl ⟨e, v, .non, .non, rfl, .inl ⟨hb, fun H4 s4 => land Cs _ _ _ _ _ _ _ _ _ _ H4 F1 (s03.trans s4) rfl rfl rfl rfl _ rfl⟩⟩))
      · exact .inr (.inr (.inr ⟨e, v, .non, .non, rfl, .inl ⟨hb, fun H4 s4 => land Cs _ _ _ _ _ _ _ _ _ _ H4 F1 (s03.trans s4) rfl rfl rfl rfl _ rfl⟩⟩))
    · refine ⟨_, rfl, rfl, _, rfl, ite_no (int_no (by decide)) ⟨_, rfl, rfl, _, rfl, ite_yes (decide_eq_true rfl) ⟨_, rfl, _, rfl, w', r, rfl, hw, hr0, hr1, hTb, fun H' sm => ?_⟩⟩⟩
      exact land Cr _ _ _ _ _ _ _ _ _ _ H' F2 sm rfl rfl rfl rfl _ rfl
    · refine ⟨_, rfl, rfl, _, rfl, ite_no (int_no (by decide)) ⟨_, rfl, rfl, _, rfl, ite_no (int_no (by decide)) ⟨_, rfl, rfl, _, rfl, ite_yes (decide_eq_true rfl) ⟨_, rfl, _, rfl, w', r, rfl, hw, hr0, hr1, hTb, fun H' sm => ?_⟩⟩⟩⟩
      exact land Cd _ _ _ _ _ _ _ _ _ _ H' F3 sm rfl rfl rfl rfl _ rfl
    · refine ⟨_, rfl, rfl, _, rfl, ite_no (int_no (by decide)) ⟨_, rfl, rfl, _, rfl, ite_no (int_no (by decide)) ⟨_, rfl, rfl, _, rfl, ite_no (int_no (by decide)) ?_⟩⟩⟩
      have h50 := Int.emod_nonneg r (show (5 : Int) ≠ 0 by decide)
      have h51 := Int.emod_lt_of_pos r (show (0 : Int) < 5 by decide)
      have h30 := Int.emod_nonneg (w' / 4) (show (3 : Int) ≠ 0 by decide)
      have h31 := Int.emod_lt_of_pos (w' / 4) (show (0 : Int) < 3 by decide)
      refine ⟨_, rfl, _, 5, rfl, rfl, (by show (0 : Int) < 5; decide), _, rfl, by omega, by omega, fun L1 hL1 => lc_range (lo := 0) (n := (r % 5).toNat) (fun i H' => Same H H' ∧ H' L1 = some (.lst ((List.replicate i (1 : Int)).map V.int))) ⟨same_new hL1, upd_same⟩ ?_ ?_⟩
      · rintro i H' hi ⟨sm, hL⟩
        refine ⟨rfl, _, hL, ?_, smut sm hL1, ?_⟩
        · rw [List.length_map, List.length_replicate]
          exact line_lt (by omega)
        · rw [upd_same, List.replicate_succ', List.map_append]; rfl
      rintro H1 ⟨s1, e1⟩
      refine ⟨_, rfl, _, 5, rfl, rfl, (by show (0 : Int) < 5; decide), _, 1, rfl, rfl, _, rfl, _, 4, rfl, rfl, ⟨by decide, by decide⟩, _, 3, rfl, rfl, (by show (0 : Int) < 3; decide), _, _, rfl, rfl, _, rfl, by omega, by omega, fun L2 hL2 => lc_range (lo := 0) (n := (r % 5 + 1 + w' / 4 % 3).toNat) (fun i H' => Same H1 H' ∧ H' L2 = some (.lst ((List.replicate i (2 : Int)).map V.int))) ⟨same_new hL2, upd_same⟩ ?_ ?_⟩
      · rintro i H' hi ⟨sm, hL⟩
        refine ⟨rfl, _, hL, ?_, smut sm hL2, ?_⟩
        · rw [List.length_map, List.length_replicate]
          exact line_lt (by omega)
        · rw [upd_same, List.replicate_succ', List.map_append]; rfl
      rintro H2 ⟨s2, e2⟩
      have e12 := s2 _ _ e1
      have s02 := s1.trans s2
      have ro : ∀ (n : Nat) (x : Int), 0 ≤ x → x < 10 → RowOk 10 (List.replicate n x) := fun n x h1 h2 z hz => by
        rw [List.eq_of_mem_replicate hz]; exact ⟨h1, h2⟩
      have hne : (List.replicate (r % 5).toNat (1 : Int)).length ≠ (List.replicate (r % 5 + 1 + w' / 4 % 3).toNat (2 : Int)).length := by
        rw [List.length_replicate, List.length_replicate]; omega
      have h20 := Int.emod_nonneg w' (show (2 : Int) ≠ 0 by decide)
      have h21 := Int.emod_lt_of_pos w' (show (0 : Int) < 2 by decide)
      refine ⟨_, rfl, _, 4, rfl, rfl, (by show (0 : Int) < 4; decide), _, 2, rfl, rfl, _, rfl, ?_⟩
      by_cases h : w' % 4 < 2
      · rw [decide_eq_true h]
        refine iteT ⟨_, rfl, _, 2, rfl, rfl, (by show (0 : Int) < 2; decide), _, _, rfl, rfl, _, rfl, _, rfl, _, .int 10, .ref L1, .ref L2, rfl, ?_⟩
        rcases (show w' % 2 = 0 ∨ w' % 2 = 1 by omega) with e | e
        · exact .inr (.inr (.inl ⟨by omega, .int 10, .ref L1, .ref L2, rfl, .inr (.inr (.inr ⟨10, L1, L2, _, _, rfl, by decide, rfl, rfl, SqL.of e12, SqL.of e2, ro _ _ (by decide) (by decide), ro _ _ (by decide) (by decide), hne, fun H4 s4 => land Cu _ _ _ _ _ _ _ _ _ _ H4 F4 (s02.trans s4) rfl rfl rfl rfl _ rfl⟩))⟩))
        · exact .inr (.inr (.inr ⟨by omega, .int 10, .ref L1, .ref L2, rfl, .inr (.inr (.inr ⟨10, L1, L2, _, _, rfl, by decide, rfl, rfl, SqL.of e12, SqL.of e2, ro _ _ (by decide) (by decide), ro _ _ (by decide) (by decide), hne, fun H4 s4 => land Cu _ _ _ _ _ _ _ _ _ _ H4 F4 (s02.trans s4) rfl rfl rfl rfl _ rfl⟩))⟩))
      · rw [decide_eq_false h]
        refine iteF ⟨_, rfl, _, 2, rfl, rfl, (by show (0 : Int) < 2; decide), _, _, rfl, rfl, _, rfl, _, rfl, _, .int 10, .ref L2, .ref L1, rfl, ?_⟩
        rcases (show w' % 2 = 0 ∨ w' % 2 = 1 by omega) with e | e
        · exact .inr (.inr (.inl ⟨by omega, .int 10, .ref L2, .ref L1, rfl, .inr (.inr (.inr ⟨10, L2, L1, _, _, rfl, by decide, rfl, rfl, SqL.of e2, SqL.of e12, ro _ _ (by decide) (by decide), ro _ _ (by decide) (by decide), hne.symm, fun H4 s4 => land Cu _ _ _ _ _ _ _ _ _ _ H4 F4 (s02.trans s4) rfl rfl rfl rfl _ rfl⟩))⟩))
        · exact .inr (.inr (.inr ⟨by omega, .int 10, .ref L2, .ref L1, rfl, .inr (.inr (.inr ⟨10, L2, L1, _, _, rfl, by decide, rfl, rfl, SqL.of e2, SqL.of e12, ro _ _ (by decide) (by decide), ro _ _ (by decide) (by decide), hne.symm, fun H4 s4 => land Cu _ _ _ _ _ _ _ _ _ _ H4 F4 (s02.trans s4) rfl rfl rfl rfl _ rfl⟩))⟩))
end
end DR
namespace DR
open PySem PySem.Spec PyProof.Rows L2
section
variable {P : Program} {w : World} {K : PySem.W.Frag} {mg : Str → Option Value} {base : Heap} {Cs Cr Cd Cu : Addr} {Tb : List Addr}
abbrev NLRows : List Str := ["_law_which", "_law_more", "_law_bad", "_law_door", "_law_dial"]
theorem scLRows : FnScope NLRows ["_law_which", "_law_more"] (defScope lRowsAsked) := ⟨rfl, rfl, rfl, by decide +kernel, rfl, by decide +kernel, by decide +kernel⟩
theorem NotL.same {H H' : Hp} {v : V} (h : NotL K H v) (s : Same H H') : NotL K H' v := by
  cases h with
  | int i => exact .int i
  | bl b => exact .bl b
  | non => exact .non
  | str x => exact .str x
  | tup h => exact .tup (stup s h)
theorem BadRow.same {H H' : Hp} {m : Int} {a : Addr} {xs : List V} (s : Same H H') (e : H a = some (.lst xs)) (hN : ∀ x ∈ xs, ∀ H, ∃ b, NumB K H x b) (hx : ∃ x ∈ xs, ¬ FigOk m x) : BadRow K H' m (.ref a) := .inr ⟨a, xs, rfl, SqL.of (s _ _ e), fun x hx => hN x hx H', hx⟩
theorem ok_lRows (D : Def K mg "_law_rows_asked" lRowsAsked ["_law_which", "_law_more"]) (B : Blt mg) (GA : CalleeX P w K mg base 11 "_law_ask" ["_law_door", "_law_size", "_law_one", "_law_other"] (spAskX (spTurnedX Tb K Cs Cr Cd) (spLevelX K Cs Cr) (spBestX K Cs Cr Cu) (spBestX K Cs Cr Cu)))
    (GB : CalleeX P w K mg base 10 "best" ["size", "one", "other"] (spBestX K Cs Cr Cu)) (GP : CalleeX P w K mg base 10 "apart" ["size", "one", "other"] (spBestX K Cs Cr Cu)) : CalleeX P w K mg base 12 "_law_rows_asked" ["_law_which", "_law_more"] (spKind Tb 1 Cr) := by
  refine D.okX scLRows (fun vs H Q E h => ?_) (fun f cdv A outer s H vs Q E hr h => ?_)
  · obtain ⟨w', r, rfl, _⟩ := h
    rfl
  · obtain ⟨w', r, rfl, hw, hr0, hr9, hTb, e⟩ := h
    have hr1 : Room 10 _ := hr.mono (by decide)
    refine ⟨_, (pss_cons (ps_set (i := 2) scLRows.nd rfl (.inl rfl) (pe_ix (r := rIxL K) ix_list (pe_lst (pa_cons pe_non (pa_cons (pe_tup (pa_cons pe_int (pa_cons pe_int pa_nil))) (pa_cons pe_str (pa_cons pe_int (pa_cons (pe_lst (pa_cons (pe_op op_add pe_int (pv 1)) pa_nil)) (pa_cons (pe_lst (pa_cons (pe_op op_sub (pe_un un_neg pe_int) (pv 1)) pa_nil)) (pa_cons (pe_lst (pa_cons pe_bl pa_nil)) (pa_cons (pe_lst (pa_cons pe_str pa_nil)) (pa_cons (pe_lst (pa_cons pe_non pa_nil)) pa_nil)))))))))) (pe_op op_mod (pv 0) pe_int) (fun _ _ => rfl)))
          (pss_cons (ps_if (pt_val (pe_callB call_isi (by rfl) B.isi boot_isinstance (pa_cons (pv 2) (pa_cons (pe_bltn (v := .ty "list") (by rfl) B.list PyProof.Rows.boot_list rfl) pa_nil)))) (pss_one (ps_set (i := 2) scLRows.nd rfl (.inl rfl) (pe_op op_cat (pe_op op_cat (pe_lc (own := [("_law_dial", 4)]) (g := gName 4) (tt := tYes) rfl scLRows.nd (pi_range1 (by rfl) B.range (pa_cons (pe_op op_mod (pv 1) pe_int) pa_nil)) (blkOk_by (N := NLRows) (sc := defScope lRowsAsked) (by decide +kernel)) (fun _ _ _ _ _ => pg_name (i := 4) scLRows.nd rfl (.inl rfl)) (fun _ _ _ _ _ => pts_nil) (fun _ _ _ _ _ => pe_int)) (pv 2)) (pe_op op_rep (pe_lst (pa_cons pe_int pa_nil)) (pe_op op_mod (pv 1) pe_int))))) pss_nil)
          (pss_cons (ps_set (i := 3) scLRows.nd rfl (.inl rfl) (pe_op op_mod (pe_op op_fdiv (pv 0) pe_int) pe_int))
          (pss_cons (ps_if (pt_cmpR op_lt (pv 3) pe_int (nomark _)) (pss_one (ps_ret (pe_x GA hr (by rfl) (takes_of rfl rfl rfl rfl) (pa_cons (pv 3) (pa_cons pe_int (pa_cons (pv 2) (pa_cons pe_non pa_nil))))))) pss_nil)
          (pss_one (ps_ret (pe_ifExp (pt_cmpR op_eq (pv 3) pe_int (nomark _)) (pe_x GB hr1 (by rfl) (takes_of rfl rfl rfl rfl) (pa_cons pe_int (pa_cons (pe_lst (pa_cons pe_int (pa_cons pe_int pa_nil))) (pa_cons (pv 2) pa_nil)))) (pe_x GP hr1 (by rfl) (takes_of rfl rfl rfl rfl) (pa_cons pe_int (pa_cons (pe_lst (pa_cons pe_int (pa_cons pe_int pa_nil))) (pa_cons (pv 2) pa_nil))))))))))), ?_⟩
    -- the end, from what is no row
    have fin : ∀ (v : V) (H' : Hp) (s4 : Option V), Same H H' → BadRow K H' 10 v → (∀ H2, Same H' H2 → BadRow K H2 10 v) → ∀ (D' : Ends), tSeq (tAsg (tOp (rI (fun x j => 0 < j) fun i j => V.int (i % j)) (tOp (rI CDiv fun i j => V.int (i / j)) (tVar 0) (tC (.int 9))) (tC (.int 6))) (gName 3))
        (tSeq (tIfS (tTest (tOp (rI0 fun i j => .bl (decide (i < j))) (tVar 3) (tC (.int 4)))) (tRet (tCallS (spAskX (spTurnedX Tb K Cs Cr Cd) (spLevelX K Cs Cr) (spBestX K Cs Cr Cu) (spBestX K Cs Cr Cu)) (WE fun cls d _ H => E cls d H) (tCons (tVar 3) (tCons (tC (.int 10)) (tCons (tVar 2) (tCons (tC .non) tNil)))))) tNext)
        (tRet (tIf (tTest (tOp rEq (tVar 3) (tC (.int 4)))) (tCallS (spBestX K Cs Cr Cu) (WE fun cls d _ H => E cls d H) (tCons (tC (.int 10)) (tCons (tLst (tCons (tC (.int 1)) (tCons (tC (.int 2)) tNil))) (tCons (tVar 2) tNil))))
          (tCallS (spBestX K Cs Cr Cu) (WE fun cls d _ H => E cls d H) (tCons (tC (.int 10)) (tCons (tLst (tCons (tC (.int 1)) (tCons (tC (.int 2)) tNil))) (tCons (tVar 2) tNil))))))) D' [some (.int w'), some (.int r), some v, none, s4] H' := by
      intro v H' s4 sm hb hb2 D'
      have h60 := Int.emod_nonneg (w' / 9) (show (6 : Int) ≠ 0 by decide)
      have h61 := Int.emod_lt_of_pos (w' / 9) (show (0 : Int) < 6 by decide)
      refine ⟨_, rfl, _, 9, rfl, rfl, ⟨by decide, by decide⟩, _, 6, rfl, rfl, (by show (0 : Int) < 6; decide), _, rfl, _, 4, rfl, rfl, _, rfl, ?_⟩
      rcases (show w' / 9 % 6 = 0 ∨ w' / 9 % 6 = 1 ∨ w' / 9 % 6 = 2 ∨ w' / 9 % 6 = 3 ∨ w' / 9 % 6 = 4 ∨ w' / 9 % 6 = 5 by omega) with g | g | g | g | g | g
      · rw [decide_eq_true (by omega)]
        exact iteT ⟨_, rfl, _, rfl, _, .int 10, v, .non, rfl, .inl ⟨g, .int 10, v, .non, rfl, .inr (.inl ⟨10, rfl, by decide, hb, e H' sm⟩)⟩⟩
      · rw [decide_eq_true (by omega)]
        exact iteT ⟨_, rfl, _, rfl, _, .int 10, v, .non, rfl, .inr (.inl ⟨g, .int 10, v, rfl, .inr ⟨10, rfl, by decide, hb, fun H2 s2 => e H2 (sm.trans s2)⟩⟩)⟩
      · rw [decide_eq_true (by omega)]
        exact iteT ⟨_, rfl, _, rfl, _, .int 10, v, .non, rfl, .inr (.inr (.inl ⟨g, .int 10, v, .non, rfl, .inr (.inl ⟨10, rfl, by decide, hb, fun H2 s2 => e H2 (sm.trans s2)⟩)⟩))⟩
      · rw [decide_eq_true (by omega)]
        exact iteT ⟨_, rfl, _, rfl, _, .int 10, v, .non, rfl, .inr (.inr (.inr ⟨g, .int 10, v, .non, rfl, .inr (.inl ⟨10, rfl, by decide, hb, fun H2 s2 => e H2 (sm.trans s2)⟩)⟩))⟩
      · rw [decide_eq_false (by omega)]
        refine iteF ⟨_, rfl, rfl, _, rfl, ite_yes (decide_eq_true (congrArg V.int g)) ⟨(by show 2 ≤ sizeLine; decide), fun l hl => ⟨_, rfl, .int 10, .ref l, v, rfl, .inr (.inr (.inl ⟨10, l, [1, 2], rfl, by decide, rfl, SqL.of upd_same, ?_, hb2 _ (same_new hl), fun H2 s2 => e H2 ((sm.trans (same_new hl)).trans s2)⟩))⟩⟩⟩
        intro z hz
        simp only [List.mem_cons, List.not_mem_nil, or_false] at hz
        rcases hz with q | q <;> subst q <;> decide
      · rw [decide_eq_false (by omega)]
        refine iteF ⟨_, rfl, rfl, _, rfl, ite_no (int_no (by omega)) ⟨(by show 2 ≤ sizeLine; decide), fun l hl => ⟨_, rfl, .int 10, .ref l, v, rfl, .inr (.inr (.inl ⟨10, l, [1, 2], rfl, by decide, rfl, SqL.of upd_same, ?_, hb2 _ (same_new hl), fun H2 s2 => e H2 ((sm.trans (same_new hl)).trans s2)⟩))⟩⟩⟩
        intro z hz
        simp only [List.mem_cons, List.not_mem_nil, or_false] at hz
        rcases hz with q | q <;> subst q <;> decide
    have al : ∀ (H1 : Hp) (p : Addr) (o : HO), Same H H1 → H1 p = none → Same H (upd H1 p o) := fun H1 p o s h => s.trans (same_new h)
    refine ⟨(by show 2 ≤ sizeLine; decide), fun t1 ht1 => ?_⟩
    have s1 := al _ _ (.tup [.int 1, .int 2]) (Same.refl _) ht1
    have e1 : (upd H t1 (.tup [.int 1, .int 2])) t1 = some (.tup [.int 1, .int 2]) := upd_same
    generalize upd H t1 (.tup [.int 1, .int 2]) = H1 at s1 e1 ⊢
    refine ⟨_, rfl, _, _, rfl, rfl, (by show 1 ≤ sizeLine; decide), fun t2 ht2 => ?_⟩
    have w2 : Same H1 (upd H1 t2 (.lst [.int (10 + r)])) := same_new ht2
    have e2 : (upd H1 t2 (.lst [.int (10 + r)])) t2 = some (.lst [.int (10 + r)]) := upd_same
    generalize upd H1 t2 (.lst [.int (10 + r)]) = H2 at w2 e2 ⊢
    refine ⟨1, rfl, _, rfl, _, _, rfl, rfl, (by show 1 ≤ sizeLine; decide), fun t3 ht3 => ?_⟩
    have w3 : Same H2 (upd H2 t3 (.lst [.int (-1 - r)])) := same_new ht3
    have e3 : (upd H2 t3 (.lst [.int (-1 - r)])) t3 = some (.lst [.int (-1 - r)]) := upd_same
    generalize upd H2 t3 (.lst [.int (-1 - r)]) = H3 at w3 e3 ⊢
    refine ⟨(by show 1 ≤ sizeLine; decide), fun t4 ht4 => ?_⟩
    have w4 : Same H3 (upd H3 t4 (.lst [.bl true])) := same_new ht4
    have e4 : (upd H3 t4 (.lst [.bl true])) t4 = some (.lst [.bl true]) := upd_same
    generalize upd H3 t4 (.lst [.bl true]) = H4 at w4 e4 ⊢
    refine ⟨(by show 1 ≤ sizeLine; decide), fun t5 ht5 => ?_⟩
    have w5 : Same H4 (upd H4 t5 (.lst [.str "1"])) := same_new ht5
    have e5 : (upd H4 t5 (.lst [.str "1"])) t5 = some (.lst [.str "1"]) := upd_same
    generalize upd H4 t5 (.lst [.str "1"]) = H5 at w5 e5 ⊢
    refine ⟨(by show 1 ≤ sizeLine; decide), fun t6 ht6 => ?_⟩
    have w6 : Same H5 (upd H5 t6 (.lst [.non])) := same_new ht6
    have e6 : (upd H5 t6 (.lst [.non])) t6 = some (.lst [.non]) := upd_same
    generalize upd H5 t6 (.lst [.non]) = H6 at w6 e6 ⊢
    refine ⟨(by show 9 ≤ sizeLine; decide), fun L hL => ?_⟩
    obtain ⟨cs, hcs⟩ : ∃ cs : List V, cs = [.non, .ref t1, .str "12", .int 5, .ref t2, .ref t3, .ref t4, .ref t5, .ref t6] := ⟨_, rfl⟩
    generalize hG : upd H6 L (.lst [.non, .ref t1, .str "12", .int 5, .ref t2, .ref t3, .ref t4, .ref t5, .ref t6]) = H7
    have w7 : Same H6 H7 := by rw [← hG]; exact same_new hL
    have e7 : H7 L = some (.lst cs) := by rw [← hG, hcs]; exact upd_same
    have s07 := (((((s1.trans w2).trans w3).trans w4).trans w5).trans w6).trans w7
    have hv : ∃ v, atI cs (w' % 9) = some v ∧ (NotL K H7 v ∨ ∃ a x, v = .ref a ∧ H7 a = some (.lst [x]) ∧ (∀ H, ∃ b, NumB K H x b) ∧ ¬ FigOk 10 x) := by
      have h1 := Int.emod_nonneg w' (show (9 : Int) ≠ 0 by decide)
      have h2 := Int.emod_lt_of_pos w' (show (0 : Int) < 9 by decide)
      rw [hcs]
      rcases (show w' % 9 = 0 ∨ w' % 9 = 1 ∨ w' % 9 = 2 ∨ w' % 9 = 3 ∨ w' % 9 = 4 ∨ w' % 9 = 5 ∨ w' % 9 = 6 ∨ w' % 9 = 7 ∨ w' % 9 = 8 by omega) with e | e | e | e | e | e | e | e | e <;> rw [e]
      · exact ⟨_, atI_nat (j := 0) rfl, .inl .non⟩
      · exact ⟨_, atI_nat (j := 1) rfl, .inl (.tup (SqT.of (w7 _ _ (w6 _ _ (w5 _ _ (w4 _ _ (w3 _ _ (w2 _ _ e1))))))))⟩
      · exact ⟨_, atI_nat (j := 2) rfl, .inl (.str _)⟩
      · exact ⟨_, atI_nat (j := 3) rfl, .inl (.int _)⟩
      · exact ⟨_, atI_nat (j := 4) rfl, .inr ⟨_, _, rfl, w7 _ _ (w6 _ _ (w5 _ _ (w4 _ _ (w3 _ _ e2)))), fun _ => ⟨_, .int _⟩, fun ⟨i, q, _, q2⟩ => by have := V.int.inj q; omega⟩⟩
      · exact ⟨_, atI_nat (j := 5) rfl, .inr ⟨_, _, rfl, w7 _ _ (w6 _ _ (w5 _ _ (w4 _ _ e3))), fun _ => ⟨_, .int _⟩, fun ⟨i, q, q1, _⟩ => by have := V.int.inj q; omega⟩⟩
      · exact ⟨_, atI_nat (j := 6) rfl, .inr ⟨_, _, rfl, w7 _ _ (w6 _ _ (w5 _ _ e4)), fun _ => ⟨_, .bl _⟩, fun ⟨i, q, _⟩ => nomatch q⟩⟩
      · exact ⟨_, atI_nat (j := 7) rfl, .inr ⟨_, _, rfl, w7 _ _ (w6 _ _ e5), fun _ => ⟨_, .str _⟩, fun ⟨i, q, _⟩ => nomatch q⟩⟩
      · exact ⟨_, atI_nat (j := 8) rfl, .inr ⟨_, _, rfl, w7 _ _ e6, fun _ => ⟨_, .non⟩, fun ⟨i, q, _⟩ => nomatch q⟩⟩
    obtain ⟨v, hat, hv⟩ := hv
    refine ⟨_, rfl, _, 9, rfl, rfl, (by show (0 : Int) < 9; decide), L, _, _, v, rfl, rfl, SqL.of e7, hat, ?_⟩
    rcases hv with hN | ⟨a, x, rfl, ha, hN, hx⟩
    · have hd := fin v H7 none s07 (.inl hN) (fun H2 s2 => .inl (hN.same s2)) { nx := fun _ H' => Q .non H', rt := Q }
      cases hN with
      | int i => exact ⟨_, rfl, ⟨_, _, _, _, false, rfl, .ty _, .base (.int i), kit_ty (by decide +kernel), ⟨false, rfl, iteF hd⟩⟩⟩
      | bl b => exact ⟨_, rfl, ⟨_, _, _, _, false, rfl, .ty _, .base (.bl b), kit_ty (by decide +kernel), ⟨false, rfl, iteF hd⟩⟩⟩
      | non => exact ⟨_, rfl, ⟨_, _, _, _, false, rfl, .ty _, .base .non, kit_ty (by decide +kernel), ⟨false, rfl, iteF hd⟩⟩⟩
      | str z => exact ⟨_, rfl, ⟨_, _, _, _, false, rfl, .ty _, .base (.str z), kit_ty (by decide +kernel), ⟨false, rfl, iteF hd⟩⟩⟩
      | tup h => exact ⟨_, rfl, ⟨_, _, _, _, false, rfl, .ty _, ty_tup h, kit_ty (by decide +kernel), ⟨false, rfl, iteF hd⟩⟩⟩
    · have h60 := Int.emod_nonneg r (show (6 : Int) ≠ 0 by decide)
      have h61 := Int.emod_lt_of_pos r (show (0 : Int) < 6 by decide)
      have h30 := Int.emod_nonneg r (show (3 : Int) ≠ 0 by decide)
      have h31 := Int.emod_lt_of_pos r (show (0 : Int) < 3 by decide)
      refine ⟨_, rfl, ⟨_, _, _, _, true, rfl, .ty _, (ty_lst (SqL.of ha)), kit_ty (by decide +kernel), ⟨true, rfl, iteT ?_⟩⟩⟩
      refine ⟨_, rfl, _, 6, rfl, rfl, (by show (0 : Int) < 6; decide), _, rfl, by omega, by omega, fun L1 hL1 => lc_range (lo := 0) (n := (r % 6).toNat) (fun i H' => Same H7 H' ∧ H' L1 = some (.lst ((List.replicate i (3 : Int)).map V.int))) ⟨same_new hL1, upd_same⟩ ?_ ?_⟩
      · rintro i H' hi ⟨sm, hLi⟩
        refine ⟨rfl, _, hLi, ?_, smut sm hL1, ?_⟩
        · rw [List.length_map, List.length_replicate]
          exact line_lt (by omega)
        · rw [upd_same, List.replicate_succ', List.map_append]; rfl
      rintro H8 ⟨w8, e8⟩
      refine ⟨_, rfl, L1, a, _, _, rfl, rfl, e8, w8 _ _ ha, ?_, fun p1 hp1 => ?_⟩
      · rw [List.length_map, List.length_replicate]
        exact line_of (by show (r % 6).toNat + 1 ≤ 100000; omega)
      have w9 : Same H8 (upd H8 p1 (.lst ((List.replicate (r % 6).toNat (3 : Int)).map V.int ++ [x]))) := same_new hp1
      have e9 : (upd H8 p1 (.lst ((List.replicate (r % 6).toNat (3 : Int)).map V.int ++ [x]))) p1 = some (.lst ((List.replicate (r % 6).toNat (3 : Int)).map V.int ++ [x])) := upd_same
      generalize upd H8 p1 (.lst ((List.replicate (r % 6).toNat (3 : Int)).map V.int ++ [x])) = H9 at w9 e9 ⊢
      refine ⟨(by show 1 ≤ sizeLine; decide), fun q1 hq1 => ?_⟩
      have w10 : Same H9 (upd H9 q1 (.lst [.int 9])) := same_new hq1
      have e10 : (upd H9 q1 (.lst [.int 9])) q1 = some (.lst [.int 9]) := upd_same
      generalize upd H9 q1 (.lst [.int 9]) = H10 at w10 e10 ⊢
      refine ⟨_, rfl, _, 3, rfl, rfl, (by show (0 : Int) < 3; decide), q1, _, _, rfl, rfl, e10, by omega, by omega, ?_, fun q2 hq2 => ?_⟩
      · exact line_of (by show 1 * (r % 3).toNat ≤ 100000; omega)
      have w11 : Same H10 (upd H10 q2 (.lst (List.replicate (r % 3).toNat [V.int 9]).flatten)) := same_new hq2
      have e11 : (upd H10 q2 (.lst (List.replicate (r % 3).toNat [V.int 9]).flatten)) q2 = some (.lst (List.replicate (r % 3).toNat [V.int 9]).flatten) := upd_same
      generalize upd H10 q2 (.lst (List.replicate (r % 3).toNat [V.int 9]).flatten) = H11 at w11 e11 ⊢
      refine ⟨p1, q2, _, _, rfl, rfl, w11 _ _ (w10 _ _ e9), e11, ?_, fun p hp => ?_⟩
      · rw [List.length_append, List.length_map, List.length_replicate, List.flatten_replicate_singleton, List.length_replicate]
        exact line_of (by show (r % 6).toNat + 1 + (r % 3).toNat ≤ 100000; omega)
      have s12 := (((s07.trans w8).trans w9).trans w10).trans (w11.trans (same_new (o := .lst ((List.replicate (r % 6).toNat (3 : Int)).map V.int ++ [x] ++ (List.replicate (r % 3).toNat [V.int 9]).flatten)) hp))
      have e12 : (upd H11 p (.lst ((List.replicate (r % 6).toNat (3 : Int)).map V.int ++ [x] ++ (List.replicate (r % 3).toNat [V.int 9]).flatten))) p = some (.lst ((List.replicate (r % 6).toNat (3 : Int)).map V.int ++ [x] ++ (List.replicate (r % 3).toNat [V.int 9]).flatten)) := upd_same
      have hN2 : ∀ y ∈ (List.replicate (r % 6).toNat (3 : Int)).map V.int ++ [x] ++ (List.replicate (r % 3).toNat [V.int 9]).flatten, ∀ H, ∃ b, NumB K H y b := fun y hy H => by
        rcases List.mem_append.mp hy with h | h
        · rcases List.mem_append.mp h with h | h
          · obtain ⟨z, _, q⟩ := List.mem_map.mp h
            rw [← q]; exact ⟨_, .int _⟩
          · rw [List.mem_singleton.mp h]; exact hN H
        · rw [List.flatten_replicate_singleton] at h
          rw [List.eq_of_mem_replicate h]; exact ⟨_, .int _⟩
      have hx2 : ∃ y ∈ (List.replicate (r % 6).toNat (3 : Int)).map V.int ++ [x] ++ (List.replicate (r % 3).toNat [V.int 9]).flatten, ¬ FigOk 10 y := ⟨x, List.mem_append_left _ (List.mem_append_right _ List.mem_cons_self), hx⟩
      exact fin (.ref p) _ none s12 (BadRow.same (Same.refl _) e12 hN2 hx2) (fun H2 s2 => BadRow.same s2 e12 hN2 hx2) _
end
end DR
namespace DR
open PySem PySem.Spec PyProof.Rows L2
/-! ### values written out -/
/-- a row of plain values -/
inductive Dt where
  | nil : Dt
  | int : Int → Dt → Dt
  | bl : Bool → Dt → Dt
  | non : Dt → Dt
  | str : Str → Dt → Dt
  | lst : Dt → Dt → Dt
  | tup : Dt → Dt → Dt
def Dt.count : Dt → Nat
  | .nil => 0
  | .int _ r => r.count + 1
  | .bl _ r => r.count + 1
  | .non r => r.count + 1
  | .str _ r => r.count + 1
  | .lst _ r => r.count + 1
  | .tup _ r => r.count + 1
def Dt.app : Dt → Dt → Dt
  | .nil, s => s
  | .int i r, s => .int i (r.app s)
  | .bl b r, s => .bl b (r.app s)
  | .non r, s => .non (r.app s)
  | .str x r, s => .str x (r.app s)
  | .lst d r, s => .lst d (r.app s)
  | .tup d r, s => .tup d (r.app s)
/-- so they stand in the heap -/
inductive Dl (H : Hp) : List V → Dt → Prop
  | nil : Dl H [] .nil
  | int {i : Int} {vs : List V} {r : Dt} : Dl H vs r → Dl H (.int i :: vs) (.int i r)
  | bl {b : Bool} {vs : List V} {r : Dt} : Dl H vs r → Dl H (.bl b :: vs) (.bl b r)
  | non {vs : List V} {r : Dt} : Dl H vs r → Dl H (.non :: vs) (.non r)
  | str {x : Str} {vs : List V} {r : Dt} : Dl H vs r → Dl H (.str x :: vs) (.str x r)
  | lst {a : Addr} {xs vs : List V} {d r : Dt} : H a = some (.lst xs) → Dl H xs d → Dl H vs r → Dl H (.ref a :: vs) (.lst d r)
  | tup {a : Addr} {xs vs : List V} {d r : Dt} : H a = some (.tup xs) → Dl H xs d → Dl H vs r → Dl H (.ref a :: vs) (.tup d r)
theorem Dl.same {H H' : Hp} {vs : List V} {d : Dt} (h : Dl H vs d) (s : Same H H') : Dl H' vs d := by
  induction h with
  | nil => exact .nil
  | int _ ih => exact .int ih
  | bl _ ih => exact .bl ih
  | non _ ih => exact .non ih
  | str _ ih => exact .str ih
  | lst e _ _ ih1 ih2 => exact .lst (s _ _ e) ih1 ih2
  | tup e _ _ ih1 ih2 => exact .tup (s _ _ e) ih1 ih2
theorem Dl.len {H : Hp} {vs : List V} {d : Dt} (h : Dl H vs d) : vs.length = d.count := by
  induction h with
  | nil => rfl
  | int _ ih => exact congrArg (· + 1) ih
  | bl _ ih => exact congrArg (· + 1) ih
  | non _ ih => exact congrArg (· + 1) ih
  | str _ ih => exact congrArg (· + 1) ih
  | lst _ _ _ _ ih => exact congrArg (· + 1) ih
  | tup _ _ _ _ ih => exact congrArg (· + 1) ih
theorem Dl.app {H : Hp} {vs us : List V} {d e : Dt} (h : Dl H vs d) (k : Dl H us e) : Dl H (vs ++ us) (d.app e) := by
  induction h with
  | nil => exact k
  | int _ ih => exact .int ih
  | bl _ ih => exact .bl ih
  | non _ ih => exact .non ih
  | str _ ih => exact .str ih
  | lst e1 h1 _ _ ih => exact .lst e1 h1 ih
  | tup e1 h1 _ _ ih => exact .tup e1 h1 ih
/-- one value -/
def One (H : Hp) (v : V) (f : Dt → Dt) : Prop := ∀ H', Same H H' → ∀ vs r, Dl H' vs r → Dl H' (v :: vs) (f r)
theorem One.lst {H : Hp} {v : V} {d : Dt} (h : One H v (Dt.lst d)) : ∃ a xs, v = .ref a ∧ H a = some (.lst xs) ∧ Dl H xs d := by
  have := h H (Same.refl _) [] .nil .nil
  cases this with
  | lst e k _ => exact ⟨_, _, rfl, e, k⟩
class EvE (te : TE) (σ : L2.St) (f : outParam (Dt → Dt)) (ok : outParam Bool) : Prop where
  run : ok = true → ∀ H Q, (∀ v H', Same H H' → One H' v f → Q v H') → te σ H Q
class EvA (ta : TA) (σ : L2.St) (d : outParam Dt) (ok : outParam Bool) : Prop where
  run : ok = true → ∀ H Q, (∀ vs H', Same H H' → Dl H' vs d → Q vs H') → ta σ H Q
instance {i : Int} {σ : L2.St} : EvE (tC (.int i)) σ (Dt.int i) true := ⟨fun _ H Q q => q _ H (Same.refl _) fun _ _ _ _ h => .int h⟩
instance {b : Bool} {σ : L2.St} : EvE (tC (.bl b)) σ (Dt.bl b) true := ⟨fun _ H Q q => q _ H (Same.refl _) fun _ _ _ _ h => .bl h⟩
instance {σ : L2.St} : EvE (tC .non) σ Dt.non true := ⟨fun _ H Q q => q _ H (Same.refl _) fun _ _ _ _ h => .non h⟩
instance {x : Str} {σ : L2.St} : EvE (tC (.str x)) σ (Dt.str x) true := ⟨fun _ H Q q => q _ H (Same.refl _) fun _ _ _ _ h => .str h⟩
instance {i : Int} {σ : L2.St} : EvE (tUn (rU fun i => .int (-i)) (tC (.int i))) σ (Dt.int (-i)) true := ⟨fun _ H Q q => ⟨i, rfl, q _ H (Same.refl _) fun _ _ _ _ h => .int h⟩⟩
instance {i : Int} {σ : L2.St} : EvE (tVar 0) (some (.int i) :: σ) (Dt.int i) true := ⟨fun _ H Q q => ⟨_, rfl, q _ H (Same.refl _) fun _ _ _ _ h => .int h⟩⟩
instance {i j : Int} {σ : L2.St} : EvE (tOp (rI0 fun i j => .int (i - j)) (tVar 0) (tC (.int j))) (some (.int i) :: σ) (Dt.int (i - j)) true := ⟨fun _ H Q q => ⟨_, rfl, _, _, rfl, rfl, q _ H (Same.refl _) fun _ _ _ _ h => .int h⟩⟩
theorem count_line {n : Nat} (h : Nat.ble n 1000 = true) : n ≤ sizeLine := line_of (Nat.le_trans (Nat.le_of_ble_eq_true h) (by decide))
instance {ta : TA} {σ : L2.St} {d : Dt} {ok : Bool} [k : EvA ta σ d ok] : EvE (tLst ta) σ (Dt.lst d) (ok && Nat.ble d.count 1000) := ⟨fun h H Q q => by
  rw [Bool.and_eq_true] at h
  refine k.run h.1 H _ fun vs H1 s1 h1 => ⟨by rw [h1.len]; exact count_line h.2, fun p hp => ?_⟩
  refine q _ _ (s1.trans (same_new hp)) fun H2 s2 us r hr => .lst (s2 _ _ upd_same) ((h1.same (same_new hp)).same s2) hr⟩
instance {ta : TA} {σ : L2.St} {d : Dt} {ok : Bool} [k : EvA ta σ d ok] : EvE (tTup ta) σ (Dt.tup d) (ok && Nat.ble d.count 1000) := ⟨fun h H Q q => by
  rw [Bool.and_eq_true] at h
  refine k.run h.1 H _ fun vs H1 s1 h1 => ⟨by rw [h1.len]; exact count_line h.2, fun p hp => ?_⟩
  refine q _ _ (s1.trans (same_new hp)) fun H2 s2 us r hr => .tup (s2 _ _ upd_same) ((h1.same (same_new hp)).same s2) hr⟩
instance {σ : L2.St} : EvA tNil σ .nil true := ⟨fun _ H Q q => q _ H (Same.refl _) .nil⟩
instance {te : TE} {ta : TA} {σ : L2.St} {f : Dt → Dt} {d : Dt} {o1 o2 : Bool} [k1 : EvE te σ f o1] [k2 : EvA ta σ d o2] : EvA (tCons te ta) σ (f d) (o1 && o2) := ⟨fun h H Q q => by
  rw [Bool.and_eq_true] at h
  refine k1.run h.1 H _ fun v H1 s1 h1 => k2.run h.2 H1 _ fun vs H2 s2 h2 => ?_
  exact q _ _ (s1.trans s2) (h1 H2 s2 vs d h2)⟩
theorem ev_asg {te : TE} {i : Nat} {rest : TS} {D : Ends} {σ : L2.St} {H : Hp} {f : Dt → Dt} {ok : Bool} [k : EvE te σ f ok] (h : ok = true) (q : ∀ v H', Same H H' → One H' v f → rest D (σ.set i (some v)) H') : tSeq (tAsg te (gName i)) rest D σ H := k.run h H _ q
theorem ev_cat {te : TE} {i : Nat} {rest : TS} {D : Ends} {σ : L2.St} {H : Hp} {f : Dt → Dt} {ok : Bool} {x : V} (hx : σ[i]? = some (some x)) [k : EvE te σ f ok] (h : ok = true) (q : ∀ v H', Same H H' → One H' v f → rCat x v H' fun u H2 => rest D (σ.set i (some u)) H2) :
    tSeq (tAsg (tOp rCat (tVar i) te) (gName i)) rest D σ H := ⟨x, hx, k.run h H _ q⟩
theorem nx_mk {a b c : L2.St → Hp → Prop} {r : VK} {σ : L2.St} {H : Hp} (h : a σ H) : (Ends.mk a r b c).nx σ H := h
theorem ev_for {te : TE} {K : PySem.W.Frag} {g : TG} {tb rest : TS} {D : Ends} {σ : L2.St} {H : Hp} {f : Dt → Dt} {ok : Bool} [k : EvE te σ f ok] (h : ok = true) (q : ∀ v H', Same H H' → One H' v f → tSeq (tFor (iList K (tC v)) g tb) rest D σ H') : tSeq (tFor (iList K te) g tb) rest D σ H :=
  k.run h H _ fun v H' s o => q v H' s o
/-- 4 + a name, -1 - a name -/
instance {a b : Int} {x : Option V} {σ : L2.St} : EvE (tOp (rI0 fun i j => .int (i + j)) (tC (.int a)) (tVar 1)) (x :: some (.int b) :: σ) (Dt.int (a + b)) true := ⟨fun _ H Q q => ⟨_, rfl, _, _, rfl, rfl, q _ H (Same.refl _) fun _ _ _ _ h => .int h⟩⟩
instance {a b : Int} {x : Option V} {σ : L2.St} : EvE (tOp (rI0 fun i j => .int (i - j)) (tUn (rU fun i => .int (-i)) (tC (.int a))) (tVar 1)) (x :: some (.int b) :: σ) (Dt.int (-a - b)) true := ⟨fun _ H Q q => ⟨a, rfl, _, rfl, _, _, rfl, rfl, q _ H (Same.refl _) fun _ _ _ _ h => .int h⟩⟩
/-- one of a row, alone -/
def Dt.nth : Dt → Nat → Option Dt
  | .nil, _ => none
  | .int i _, 0 => some (.int i .nil)
  | .bl b _, 0 => some (.bl b .nil)
  | .non _, 0 => some (.non .nil)
  | .str x _, 0 => some (.str x .nil)
  | .lst d _, 0 => some (.lst d .nil)
  | .tup d _, 0 => some (.tup d .nil)
  | .int _ r, k + 1 => r.nth k
  | .bl _ r, k + 1 => r.nth k
  | .non r, k + 1 => r.nth k
  | .str _ r, k + 1 => r.nth k
  | .lst _ r, k + 1 => r.nth k
  | .tup _ r, k + 1 => r.nth k
theorem Dl.nth {H : Hp} {vs : List V} {d : Dt} (h : Dl H vs d) : ∀ {k : Nat} {e : Dt}, d.nth k = some e → ∃ v, vs[k]? = some v ∧ Dl H [v] e := by
  induction h with
  | nil => intro k e q; cases k <;> cases q
  | int _ ih => intro k e q; cases k with
    | zero => cases q; exact ⟨_, rfl, .int .nil⟩
    | succ k => exact ih q
  | bl _ ih => intro k e q; cases k with
    | zero => cases q; exact ⟨_, rfl, .bl .nil⟩
    | succ k => exact ih q
  | non _ ih => intro k e q; cases k with
    | zero => cases q; exact ⟨_, rfl, .non .nil⟩
    | succ k => exact ih q
  | str _ ih => intro k e q; cases k with
    | zero => cases q; exact ⟨_, rfl, .str .nil⟩
    | succ k => exact ih q
  | lst g1 g2 _ _ ih => intro k e q; cases k with
    | zero => cases q; exact ⟨_, rfl, .lst g1 g2 .nil⟩
    | succ k => exact ih q
  | tup g1 g2 _ _ ih => intro k e q; cases k with
    | zero => cases q; exact ⟨_, rfl, .tup g1 g2 .nil⟩
    | succ k => exact ih q
/-! ### deeds, rows, cases -/
def encInts : List Int → Dt
  | [] => .nil
  | i :: r => .int i (encInts r)
def encDeeds : List Deed → Dt
  | [] => .nil
  | d :: r => .tup (.int d.1 (.int d.2.1 (.int d.2.2 .nil))) (encDeeds r)
theorem of_ints {H : Hp} : ∀ {ns : List Int} {vs : List V}, Dl H vs (encInts ns) → vs = ns.map V.int
  | [], _, h => by cases h; rfl
  | i :: r, _, h => by
    cases h with
    | int k => rw [of_ints k]; rfl
theorem of_deeds {H : Hp} : ∀ {ds : List Deed} {vs : List V}, Dl H vs (encDeeds ds) → ∃ as, vs = as.map V.ref ∧ DsAt H as ds
  | [], _, h => by cases h; exact ⟨[], rfl, DsAt.nil⟩
  | d :: r, _, h => by
    cases h with
    | tup e k1 k2 =>
      obtain ⟨as, e2, h2⟩ := of_deeds k2
      subst e2
      refine ⟨_ :: as, rfl, ?_⟩
      cases k1 with
      | int k1 => cases k1 with
        | int k1 => cases k1 with
          | int k1 =>
            cases k1
            exact (DsAt.one (d := d) e).append h2
/-- deeds, a mark, two rows, what is due -/
structure Case where
  ds : List Deed
  k : Int
  xs : List Int
  ys : List Int
  due : Bool
def encCases : List Case → Dt
  | [] => .nil
  | c :: r => .tup (.lst (encDeeds c.ds) (.int c.k (.lst (encInts c.xs) (.lst (encInts c.ys) (.bl c.due .nil))))) (encCases r)
structure CaseAt (H : Hp) (t l a b : Addr) (as : List Addr) (c : Case) : Prop where
  tup : H t = some (.tup [.ref l, .int c.k, .ref a, .ref b, .bl c.due])
  lst : H l = some (.lst (as.map V.ref))
  ds : DsAt H as c.ds
  one : H a = some (.lst (c.xs.map V.int))
  other : H b = some (.lst (c.ys.map V.int))
theorem CaseAt.same {H H' : Hp} {t l a b : Addr} {as : List Addr} {c : Case} (h : CaseAt H t l a b as c) (s : Same H H') : CaseAt H' t l a b as c := ⟨s _ _ h.tup, s _ _ h.lst, h.ds.same s, s _ _ h.one, s _ _ h.other⟩
theorem of_cases {H : Hp} : ∀ {cs : List Case} {vs : List V} {i : Nat} {v : V}, Dl H vs (encCases cs) → vs[i]? = some v → ∃ c t l a b as, cs[i]? = some c ∧ v = .ref t ∧ CaseAt H t l a b as c
  | [], _, i, v, h, e => by cases h; simp at e
  | c :: r, _, i, v, h, e => by
    cases h with
    | tup e1 k1 k2 =>
      match i, e with
      | i + 1, e => exact of_cases (cs := r) k2 e
      | 0, e =>
        cases k1 with
        | lst g1 h1 k1 => cases k1 with
          | int k1 => cases k1 with
            | lst g2 h2 k1 => cases k1 with
              | lst g3 h3 k1 => cases k1 with
                | bl k1 =>
                  cases k1
                  obtain ⟨as, e4, h4⟩ := of_deeds h1
                  subst e4
                  rw [of_ints h2] at g2
                  rw [of_ints h3] at g3
                  exact ⟨c, _, _, _, _, as, rfl, (Option.some.inj e).symm, e1, g1, h4, g2, g3⟩
/-- rows with a number each -/
def encRows : List (List Int × Int) → Dt
  | [] => .nil
  | c :: r => .tup (.lst (encInts c.1) (.int c.2 .nil)) (encRows r)
theorem of_rows {H : Hp} : ∀ {cs : List (List Int × Int)} {vs : List V} {i : Nat} {v : V}, Dl H vs (encRows cs) → vs[i]? = some v → ∃ c t a, cs[i]? = some c ∧ v = .ref t ∧ H t = some (.tup [.ref a, .int c.2]) ∧ H a = some (.lst (c.1.map V.int))
  | [], _, i, v, h, e => by cases h; simp at e
  | c :: r, _, i, v, h, e => by
    cases h with
    | tup e1 k1 k2 =>
      match i, e with
      | i + 1, e => exact of_rows (cs := r) k2 e
      | 0, e =>
        cases k1 with
        | lst g1 h1 k1 => cases k1 with
          | int k1 =>
            cases k1
            rw [of_ints h1] at g1
            exact ⟨c, _, _, rfl, (Option.some.inj e).symm, e1, g1⟩
/-- a size, two rows, how far they are apart -/
def encFar : List (Int × List Int × List Int × Int) → Dt
  | [] => .nil
  | c :: r => .tup (.int c.1 (.lst (encInts c.2.1) (.lst (encInts c.2.2.1) (.int c.2.2.2 .nil)))) (encFar r)
theorem of_far {H : Hp} : ∀ {cs : List (Int × List Int × List Int × Int)} {vs : List V} {i : Nat} {v : V}, Dl H vs (encFar cs) → vs[i]? = some v → ∃ c t a b, cs[i]? = some c ∧ v = .ref t ∧ H t = some (.tup [.int c.1, .ref a, .ref b, .int c.2.2.2]) ∧ H a = some (.lst (c.2.1.map V.int)) ∧ H b = some (.lst (c.2.2.1.map V.int))
  | [], _, i, v, h, e => by cases h; simp at e
  | c :: r, _, i, v, h, e => by
    cases h with
    | tup e1 k1 k2 =>
      match i, e with
      | i + 1, e => exact of_far (cs := r) k2 e
      | 0, e =>
        cases k1 with
        | int k1 => cases k1 with
          | lst g1 h1 k1 => cases k1 with
            | lst g2 h2 k1 => cases k1 with
              | int k1 =>
                cases k1
                rw [of_ints h1] at g1
                rw [of_ints h2] at g2
                exact ⟨c, _, _, _, rfl, (Option.some.inj e).symm, e1, g1, g2⟩
end DR
namespace DR
open PySem PySem.Spec PyProof.Rows L2
section
variable {P : Program} {w : World} {K : PySem.W.Frag} {mg : Str → Option Value} {base : Heap} {Cs Cr Cd : Addr} {Tb : List Addr}
theorem bad_one {H : Hp} {n : Int} {a : Addr} {x : V} (g : H a = some (.lst [x])) (h : DeedB K H n x false) : BadDeeds K H n (.ref a) := .inr ⟨a, [x], [false], rfl, SqL.of g, rfl, fun i y e => by
  match i, e with
  | 0, e => cases e; exact ⟨false, rfl, h⟩
  | i + 1, e => simp at e, List.mem_cons_self⟩
theorem bad_two {H : Hp} {n : Int} {a : Addr} {x y : V} {b : Bool} (g : H a = some (.lst [x, y])) (h : DeedB K H n x b) (k : DeedB K H n y false) : BadDeeds K H n (.ref a) := .inr ⟨a, [x, y], [b, false], rfl, SqL.of g, rfl, fun i z e => by
  match i, e with
  | 0, e => cases e; exact ⟨b, rfl, h⟩
  | 1, e => cases e; exact ⟨false, rfl, k⟩
  | i + 2, e => simp at e, List.mem_cons_of_mem _ List.mem_cons_self⟩
theorem deed_is {H : Hp} {n : Int} {a : Addr} {x y z : Int} {b : Bool} (h : SqT K H a [.int x, .int y, .int z]) (e : deedB n (x, y, z) = b) : DeedB K H n (.ref a) b := by rw [← e]; exact .deed h
abbrev NLDAsk : List Str := ["_law_which", "_law_more", "_law_bad"]
theorem scLDAsk : FnScope NLDAsk ["_law_which", "_law_more"] (defScope lDeedsAsked) := ⟨rfl, rfl, rfl, by decide +kernel, rfl, by decide +kernel, by decide +kernel⟩
theorem ok_lDAsk (D : Def K mg "_law_deeds_asked" lDeedsAsked ["_law_which", "_law_more"]) (GT : CalleeX P w K mg base 10 "turned" ["size", "row", "deeds"] (spTurnedX Tb K Cs Cr Cd)) : CalleeX P w K mg base 11 "_law_deeds_asked" ["_law_which", "_law_more"] (spKind Tb 2 Cd) := by
  refine D.okX scLDAsk (fun vs H Q E h => ?_) (fun f cdv A outer s H vs Q E hr h => ?_)
  · obtain ⟨w', r, rfl, _⟩ := h
    rfl
  · obtain ⟨w', r, rfl, hw, hr0, hr9, hTb, e⟩ := h
    refine ⟨_, pss_cons (ps_set (i := 2) scLDAsk.nd rfl (.inl rfl) (pe_lst (pa_cons pe_non (pa_cons (pe_tup (pa_cons (pe_tup (pa_cons pe_int (pa_cons pe_int (pa_cons pe_int pa_nil)))) pa_nil)) (pa_cons pe_str (pa_cons pe_int (pa_cons (pe_lst (pa_cons pe_int pa_nil)) (pa_cons (pe_lst (pa_cons pe_non pa_nil)) (pa_cons (pe_lst (pa_cons (pe_tup (pa_cons pe_int (pa_cons pe_int pa_nil))) pa_nil)) (pa_cons (pe_lst (pa_cons (pe_tup (pa_cons pe_int (pa_cons pe_int (pa_cons pe_int (pa_cons pe_int pa_nil))))) pa_nil)) (pa_cons (pe_lst (pa_cons (pe_lst (pa_cons pe_int (pa_cons pe_int (pa_cons pe_int pa_nil)))) pa_nil)) (pa_cons (pe_lst (pa_cons (pe_tup (pa_cons pe_int (pa_cons pe_int (pa_cons pe_int pa_nil)))) pa_nil)) (pa_cons (pe_lst (pa_cons (pe_tup (pa_cons pe_int (pa_cons pe_int (pa_cons pe_int pa_nil)))) pa_nil)) pa_nil)))))))))))))
      (pss_cons (ps_set (i := 2) scLDAsk.nd rfl (.inl rfl) (pe_op op_cat (pv 2) (pe_lst (pa_cons (pe_lst (pa_cons (pe_tup (pa_cons pe_int (pa_cons pe_int (pa_cons pe_int pa_nil)))) (pa_cons (pe_tup (pa_cons pe_int (pa_cons (pe_op op_add pe_int (pv 1)) (pa_cons pe_int pa_nil)))) pa_nil))) (pa_cons (pe_lst (pa_cons (pe_tup (pa_cons (pe_op op_sub (pe_un un_neg pe_int) (pv 1)) (pa_cons pe_int (pa_cons pe_int pa_nil)))) pa_nil)) (pa_cons (pe_lst (pa_cons (pe_tup (pa_cons pe_bl (pa_cons pe_int (pa_cons pe_int pa_nil)))) pa_nil)) (pa_cons (pe_lst (pa_cons (pe_tup (pa_cons pe_int (pa_cons pe_int (pa_cons pe_str pa_nil)))) pa_nil)) (pa_cons (pe_lst (pa_cons (pe_tup (pa_cons pe_int (pa_cons pe_int (pa_cons pe_int pa_nil)))) pa_nil)) pa_nil))))))))
      (pss_one (ps_ret (pe_x GT hr (by rfl) (takes_of rfl rfl rfl rfl) (pa_cons pe_int (pa_cons (pe_lst (pa_cons pe_int (pa_cons pe_int (pa_cons pe_int pa_nil)))) (pa_cons (pe_ix (r := rIxL K) ix_list (pv 2) (pe_op op_mod (pv 0) pe_int) (fun _ _ => rfl)) pa_nil))))))), ?_⟩
    change tSeq _ _ _ [some (.int w'), some (.int r), none] _
    refine ev_asg (by rfl) fun v1 H1 s1 o1 => ?_
    obtain ⟨a1, xs1, rfl, e1, d1⟩ := o1.lst
    change tSeq _ _ _ [some (.int w'), some (.int r), some (.ref a1)] _
    refine ev_cat (by rfl) (by rfl) fun v2 G2 r2 o2 => ?_
    obtain ⟨b2, ys2, rfl, f2, g2⟩ := o2.lst
    refine ⟨a1, b2, _, _, rfl, rfl, r2 _ _ e1, f2, ?_, fun a2 ha2 => ?_⟩
    · rw [d1.len, g2.len]
      exact line_of (by show 11 + 5 ≤ 100000; decide)
    have t2 : Same G2 (upd G2 a2 (.lst (xs1 ++ ys2))) := same_new ha2
    have d2 := ((d1.same r2).app g2).same t2
    have e2 : (upd G2 a2 (.lst (xs1 ++ ys2))) a2 = some (.lst (xs1 ++ ys2)) := upd_same
    have s2 := (s1.trans r2).trans t2
    generalize upd G2 a2 (.lst (xs1 ++ ys2)) = H2 at t2 d2 e2 s2 ⊢
    generalize xs1 ++ ys2 = xs2 at d2 e2
    refine ⟨(by show 3 ≤ sizeLine; decide), fun l hl => ?_⟩
    have t3 : Same H2 (upd H2 l (.lst [.int 1, .int 2, .int 3])) := same_new hl
    have e3 : (upd H2 l (.lst [.int 1, .int 2, .int 3])) l = some (.lst (([1, 2, 3] : List Int).map V.int)) := upd_same
    have e23 := t3 _ _ e2
    replace d2 := d2.same t3
    have s3 := s2.trans t3
    generalize upd H2 l (.lst [.int 1, .int 2, .int 3]) = H3 at t3 d2 e3 e23 s3 ⊢
    have hv : ∃ v, atI xs2 (w' % 16) = some v ∧ BadDeeds K H3 3 v := by
      have h1 := Int.emod_nonneg w' (show (16 : Int) ≠ 0 by decide)
      have h2 := Int.emod_lt_of_pos w' (show (0 : Int) < 16 by decide)
      rcases (show w' % 16 = 0 ∨ w' % 16 = 1 ∨ w' % 16 = 2 ∨ w' % 16 = 3 ∨ w' % 16 = 4 ∨ w' % 16 = 5 ∨ w' % 16 = 6 ∨ w' % 16 = 7 ∨ w' % 16 = 8 ∨ w' % 16 = 9 ∨ w' % 16 = 10 ∨ w' % 16 = 11 ∨ w' % 16 = 12 ∨ w' % 16 = 13 ∨ w' % 16 = 14 ∨ w' % 16 = 15 by omega) with q | q | q | q | q | q | q | q | q | q | q | q | q | q | q | q <;> rw [q]
      · obtain ⟨v, hv, hd⟩ := d2.nth (k := 0) rfl
        refine ⟨v, atI_nat (j := 0) hv, ?_⟩
        cases hd with
        | non k1 =>
          cases k1
          exact .inl .non
      · obtain ⟨v, hv, hd⟩ := d2.nth (k := 1) rfl
        refine ⟨v, atI_nat (j := 1) hv, ?_⟩
        cases hd with
        | tup g1 c1 k1 =>
          cases k1
          exact .inl (.tup (SqT.of g1))
      · obtain ⟨v, hv, hd⟩ := d2.nth (k := 2) rfl
        refine ⟨v, atI_nat (j := 2) hv, ?_⟩
        cases hd with
        | str k1 =>
          cases k1
          exact .inl (.str _)
      · obtain ⟨v, hv, hd⟩ := d2.nth (k := 3) rfl
        refine ⟨v, atI_nat (j := 3) hv, ?_⟩
        cases hd with
        | int k1 =>
          cases k1
          exact .inl (.int _)
      · obtain ⟨v, hv, hd⟩ := d2.nth (k := 4) rfl
        refine ⟨v, atI_nat (j := 4) hv, ?_⟩
        cases hd with
        | lst g1 c1 k1 =>
          cases k1
          cases c1 with
          | int k2 =>
            cases k2
            exact bad_one g1 (.no (.int _))
      · obtain ⟨v, hv, hd⟩ := d2.nth (k := 5) rfl
        refine ⟨v, atI_nat (j := 5) hv, ?_⟩
        cases hd with
        | lst g1 c1 k1 =>
          cases k1
          cases c1 with
          | non k2 =>
            cases k2
            exact bad_one g1 (.no .non)
      · obtain ⟨v, hv, hd⟩ := d2.nth (k := 6) rfl
        refine ⟨v, atI_nat (j := 6) hv, ?_⟩
        cases hd with
        | lst g1 c1 k1 =>
          cases k1
          cases c1 with
          | tup g2 c2 k2 =>
            cases k2
            cases c2 with
            | int k3 =>
              cases k3 with
              | int k4 =>
                cases k4
                exact bad_one g1 (.len (SqT.of g2) (by decide))
      · obtain ⟨v, hv, hd⟩ := d2.nth (k := 7) rfl
        refine ⟨v, atI_nat (j := 7) hv, ?_⟩
        cases hd with
        | lst g1 c1 k1 =>
          cases k1
          cases c1 with
          | tup g2 c2 k2 =>
            cases k2
            cases c2 with
            | int k3 =>
              cases k3 with
              | int k4 =>
                cases k4 with
                | int k5 =>
                  cases k5 with
                  | int k6 =>
                    cases k6
                    exact bad_one g1 (.len (SqT.of g2) (by decide))
      · obtain ⟨v, hv, hd⟩ := d2.nth (k := 8) rfl
        refine ⟨v, atI_nat (j := 8) hv, ?_⟩
        cases hd with
        | lst g1 c1 k1 =>
          cases k1
          cases c1 with
          | lst g2 c2 k2 =>
            cases k2
            exact bad_one g1 (.no (.lst (SqL.of g2)))
      · obtain ⟨v, hv, hd⟩ := d2.nth (k := 9) rfl
        refine ⟨v, atI_nat (j := 9) hv, ?_⟩
        cases hd with
        | lst g1 c1 k1 =>
          cases k1
          cases c1 with
          | tup g2 c2 k2 =>
            cases k2
            cases c2 with
            | int k3 =>
              cases k3 with
              | int k4 =>
                cases k4 with
                | int k5 =>
                  cases k5
                  exact bad_one g1 (deed_is (SqT.of g2) (by decide +kernel))
      · obtain ⟨v, hv, hd⟩ := d2.nth (k := 10) rfl
        refine ⟨v, atI_nat (j := 10) hv, ?_⟩
        cases hd with
        | lst g1 c1 k1 =>
          cases k1
          cases c1 with
          | tup g2 c2 k2 =>
            cases k2
            cases c2 with
            | int k3 =>
              cases k3 with
              | int k4 =>
                cases k4 with
                | int k5 =>
                  cases k5
                  exact bad_one g1 (deed_is (SqT.of g2) (by decide +kernel))
      · obtain ⟨v, hv, hd⟩ := d2.nth (k := 11) rfl
        refine ⟨v, atI_nat (j := 11) hv, ?_⟩
        cases hd with
        | lst g1 c1 k1 =>
          cases k1
          cases c1 with
          | tup g2 c2 k2 =>
            cases k2 with
            | tup g3 c3 k3 =>
              cases k3
              cases c2 with
              | int k4 =>
                cases k4 with
                | int k5 =>
                  cases k5 with
                  | int k6 =>
                    cases k6
                    cases c3 with
                    | int k7 =>
                      cases k7 with
                      | int k8 =>
                        cases k8 with
                        | int k9 =>
                          cases k9
                          exact bad_two (b := true) g1 (deed_is (SqT.of g2) (by decide +kernel)) (deed_is (SqT.of g3) (by unfold deedB; rw [decide_eq_false (show ¬ (4 + r : Int) ≤ 3 by omega)]; simp))
      · obtain ⟨v, hv, hd⟩ := d2.nth (k := 12) rfl
        refine ⟨v, atI_nat (j := 12) hv, ?_⟩
        cases hd with
        | lst g1 c1 k1 =>
          cases k1
          cases c1 with
          | tup g2 c2 k2 =>
            cases k2
            cases c2 with
            | int k3 =>
              cases k3 with
              | int k4 =>
                cases k4 with
                | int k5 =>
                  cases k5
                  exact bad_one g1 (deed_is (SqT.of g2) (by unfold deedB; rw [decide_eq_false (show ¬ (0 : Int) ≤ -1 - r by omega)]; rfl))
      · obtain ⟨v, hv, hd⟩ := d2.nth (k := 13) rfl
        refine ⟨v, atI_nat (j := 13) hv, ?_⟩
        cases hd with
        | lst g1 c1 k1 =>
          cases k1
          cases c1 with
          | tup g2 c2 k2 =>
            cases k2
            cases c2 with
            | bl k3 =>
              cases k3 with
              | int k4 =>
                cases k4 with
                | int k5 =>
                  cases k5
                  exact bad_one g1 (.sort (SqT.of g2) (.bl _) (.int _) (.int _) rfl)
      · obtain ⟨v, hv, hd⟩ := d2.nth (k := 14) rfl
        refine ⟨v, atI_nat (j := 14) hv, ?_⟩
        cases hd with
        | lst g1 c1 k1 =>
          cases k1
          cases c1 with
          | tup g2 c2 k2 =>
            cases k2
            cases c2 with
            | int k3 =>
              cases k3 with
              | int k4 =>
                cases k4 with
                | str k5 =>
                  cases k5
                  exact bad_one g1 (.sort (SqT.of g2) (.int _) (.int _) (.str _) rfl)
      · obtain ⟨v, hv, hd⟩ := d2.nth (k := 15) rfl
        refine ⟨v, atI_nat (j := 15) hv, ?_⟩
        cases hd with
        | lst g1 c1 k1 =>
          cases k1
          cases c1 with
          | tup g2 c2 k2 =>
            cases k2
            cases c2 with
            | int k3 =>
              cases k3 with
              | int k4 =>
                cases k4 with
                | int k5 =>
                  cases k5
                  exact bad_one g1 (deed_is (SqT.of g2) (by decide +kernel))
    obtain ⟨v, hat, hb⟩ := hv
    refine ⟨_, rfl, _, rfl, _, 16, rfl, rfl, (by show (0 : Int) < 16; decide), a2, _, _, v, rfl, rfl, SqL.of e23, hat, .int 10, .ref l, v, rfl, .inr (.inr ⟨10, l, [1, 2, 3], rfl, by decide, rfl, SqL.of e3, ?_, hb, hTb.same s3, fun H' s' => e H' (s3.trans s')⟩)⟩
    intro z hz
    simp only [List.mem_cons, List.not_mem_nil, or_false] at hz
    rcases hz with q | q | q <;> subst q <;> decide
end
end DR
namespace DR
open PySem PySem.Spec PyProof.Rows L2
def spLaw (Tb : List Addr) (K : PySem.W.Frag) : Sp := fun vs H Q _ => ∃ (a : Addr) (ns : List Int), vs = [.ref a] ∧ SqL K H a (ns.map V.int) ∧ ns.length ≤ 63 ∧ (∀ z ∈ ns, Builtin.Int.intBits z ≤ 1048576) ∧ Tabs Tb H ∧ ∀ H', Q (.bl true) H'
section
variable {P : Program} {w : World} {K : PySem.W.Frag} {mg : Str → Option Value} {base : Heap} {Tb : List Addr}
abbrev NLaw : List Str := ["_law_script", "_law_cell", "_law_kind", "_law_due", "_law_at"]
theorem scLaw : FnScope NLaw ["_law_script"] (defScope sLaw) := ⟨rfl, rfl, rfl, by decide +kernel, rfl, by decide +kernel, by decide +kernel⟩
theorem ok_law (D : Def K mg "law" sLaw ["_law_script"]) (B : Blt mg) (GO : Callee P w K mg base 13 "_law_told" ["_law_kind", "_law_which", "_law_more"] (spTold Tb)) (GT : Callee P w K mg base 10 "turned" ["size", "row", "deeds"] (spTurned Tb K)) (GA : Callee P w K mg base 10 "apart" ["size", "one", "other"] (spApart Tb K)) :
    Callee P w K mg base 14 "law" ["_law_script"] (spLaw Tb K) := by
  refine D.ok scLaw (fun vs H Q E h => ?_) (fun f cdv A outer s H vs Q E hr h => ?_)
  · obtain ⟨a, ns, rfl, _⟩ := h
    rfl
  · obtain ⟨a, ns, rfl, hS, hlen, hbits, hTb, q⟩ := h
    have hr1 : Room 10 _ := hr.mono (by decide)
    refine ⟨_, pss_cons (ps_for PassesOwn.never rfl (pi_list (pv 0)) (pg_name (i := 1) scLaw.nd rfl (.inl rfl))
        (pss_cons (ps_set (i := 2) scLaw.nd rfl (.inr rfl) (pe_op op_mod (pv 1) pe_int))
        (pss_cons (ps_set (i := 3) scLaw.nd rfl (.inl rfl) (pe_op op_cat (pe_lc (own := [("_law_at", 4)]) (g := gName 4) (tt := tYes) rfl scLaw.nd (pi_range1 (by rfl) B.range (pa_cons pe_int pa_nil)) (blkOk_by (N := NLaw) (sc := defScope sLaw) (by decide +kernel)) (fun _ _ _ _ _ => pg_name (i := 4) scLaw.nd rfl (.inl rfl)) (fun _ _ _ _ _ => pts_nil) (fun _ _ _ _ _ => pe_cmpR op_eq (pv 2) (pv 4) (nomark _))) (pe_lst (pa_cons pe_bl pa_nil))))
        (pss_one (ps_if (pt_cmpR (op_neD hr.units) (pe_c GO hr (by rfl) (pa_cons (pv 2) (pa_cons (pe_op op_mod (pe_op op_fdiv (pv 1) pe_int) pe_int) (pa_cons (pe_op op_mod (pe_op op_fdiv (pv 1) pe_int) pe_int) pa_nil)))) (pv 3) (nomark _)) (pss_one (ps_ret pe_bl)) pss_nil)))))
      (pss_one (ps_ret (pe_and (pe_cmpR (op_eqD hr.units) (pe_c GT hr1 (by rfl) (pa_cons (pe_op op_pow pe_int pe_int) (pa_cons (pe_lst (pa_cons pe_int pa_nil)) (pa_cons (pe_lst (pa_cons (pe_tup (pa_cons pe_int (pa_cons pe_int (pa_cons (pe_un un_neg pe_int) pa_nil)))) pa_nil)) pa_nil)))) (pe_lst (pa_cons (pe_op op_sub (pe_op op_pow pe_int pe_int) pe_int) pa_nil)) (nomark _))
        (pe_one (pe_cmpR op_eq (pe_c GA hr1 (by rfl) (pa_cons pe_int (pa_cons (pe_lst (pa_cons pe_int (pa_cons pe_int (pa_cons pe_int pa_nil)))) (pa_cons (pe_lst (pa_cons pe_int (pa_cons pe_int (pa_cons pe_int pa_nil)))) pa_nil)))) pe_int (nomark _)))))), ?_⟩
    refine ⟨_, rfl, a, rfl, ⟨_, hS⟩, for_list (K := K) (a := a) (xs := ns.map V.int)
      (fun i σ H' => (∃ x1 x2 x3, σ = [some (.ref a), x1, x2, x3, none]) ∧ Same H H') ⟨⟨none, none, none, rfl⟩, Same.refl _⟩ (fun i σ H' _ h => h.2.seq hS) ?_ ?_⟩
    · rintro i y σ H1 hi ⟨⟨x1, x2, x3, rfl⟩, s1⟩
      obtain ⟨z, hz, rfl⟩ := map_at hi
      have h40 := Int.emod_nonneg z (show (4 : Int) ≠ 0 by decide)
      have h41 := Int.emod_lt_of_pos z (show (0 : Int) < 4 by decide)
      refine ⟨_, rfl, _, 4, rfl, rfl, (by show (0 : Int) < 4; decide), ?_⟩
      obtain ⟨κ, hκ⟩ : ∃ κ, z % 4 = κ := ⟨_, rfl⟩
      show gName 2 (V.int (z % 4)) _ _ _
      rw [hκ] at h40 h41 ⊢
      refine ⟨_, rfl, by decide, by decide, fun L hL => lc_range (lo := 0) (n := (4 : Int).toNat) (fun j H' => Same H1 H' ∧ H' L = some (.lst (([.bl (decide (κ = 0)), .bl (decide (κ = 1)), .bl (decide (κ = 2)), .bl (decide (κ = 3))] : List V).take j))) ⟨same_new hL, upd_same⟩ ?_ ?_⟩
      · rintro j H' hj ⟨sm, hLj⟩
        have hj4 : j < 4 := hj
        have dv : ∀ c : Int, decide (V.int κ = V.int c) = decide (κ = c) := fun c => decide_eq_decide.mpr ⟨fun e => V.int.inj e, fun e => congrArg V.int e⟩
        refine ⟨rfl, _, rfl, _, rfl, rfl, _, hLj, ?_, smut sm hL, ?_⟩
        · rw [List.length_take]
          exact line_lt (by show min j 4 < 100000; omega)
        · rw [upd_same]
          rcases (show j = 0 ∨ j = 1 ∨ j = 2 ∨ j = 3 by omega) with e | e | e | e <;> subst e
          · exact congrArg (fun b => some (HO.lst [V.bl b])) (dv 0)
          · exact congrArg (fun b => some (HO.lst [V.bl (decide (κ = 0)), V.bl b])) (dv 1)
          · exact congrArg (fun b => some (HO.lst [V.bl (decide (κ = 0)), V.bl (decide (κ = 1)), V.bl b])) (dv 2)
          · exact congrArg (fun b => some (HO.lst [V.bl (decide (κ = 0)), V.bl (decide (κ = 1)), V.bl (decide (κ = 2)), V.bl b])) (dv 3)
      rintro H2 ⟨s2, e2⟩
      refine ⟨(by show 1 ≤ sizeLine; decide), fun M hM => ?_⟩
      have s3 : Same H2 (upd H2 M (.lst [.bl true])) := same_new hM
      have e3 : (upd H2 M (.lst [.bl true])) M = some (.lst [.bl true]) := upd_same
      generalize upd H2 M (.lst [.bl true]) = H3 at s3 e3 ⊢
      refine ⟨L, M, _, _, rfl, rfl, s3 _ _ e2, e3, (by show 5 ≤ sizeLine; decide), fun p hp => ?_⟩
      have s4 : Same H3 (upd H3 p (.lst [.bl (decide (κ = 0)), .bl (decide (κ = 1)), .bl (decide (κ = 2)), .bl (decide (κ = 3)), .bl true])) := same_new hp
      have e4 : (upd H3 p (.lst [.bl (decide (κ = 0)), .bl (decide (κ = 1)), .bl (decide (κ = 2)), .bl (decide (κ = 3)), .bl true])) p = some (.lst [.bl (decide (κ = 0)), .bl (decide (κ = 1)), .bl (decide (κ = 2)), .bl (decide (κ = 3)), .bl true]) := upd_same
      show gName 3 (.ref p) _ (upd H3 p (.lst [.bl (decide (κ = 0)), .bl (decide (κ = 1)), .bl (decide (κ = 2)), .bl (decide (κ = 3)), .bl true])) _
      generalize upd H3 p (.lst [.bl (decide (κ = 0)), .bl (decide (κ = 1)), .bl (decide (κ = 2)), .bl (decide (κ = 3)), .bl true]) = H4 at s4 e4 ⊢
      have g1 := Int.emod_nonneg (z / 4) (show (100000 : Int) ≠ 0 by decide)
      have g2 := Int.emod_nonneg (z / 400000) (show (1000 : Int) ≠ 0 by decide)
      have g3 := Int.emod_lt_of_pos (z / 400000) (show (0 : Int) < 1000 by decide)
      refine ⟨_, rfl, _, rfl, _, 4, rfl, rfl, ⟨by decide, by decide⟩, _, 100000, rfl, rfl, (by show (0 : Int) < 100000; decide), _, rfl, _, 400000, rfl, rfl, ⟨by decide, by decide⟩, _, 1000, rfl, rfl, (by show (0 : Int) < 1000; decide), κ, _, _, rfl, h40, h41, g1, g2, g3, hTb.same (((s1.trans s2).trans s3).trans s4), fun H5 p5 s5 e5 => ?_⟩
      have hlay : PyData.canLay0 (.list [.bool (decide (κ = 0)), .bool (decide (κ = 1)), .bool (decide (κ = 2)), .bool (decide (κ = 3)), .bool true]) = true := rfl
      have hsh : SeqAt.shaped (.list [.bool (decide (κ = 0)), .bool (decide (κ = 1)), .bool (decide (κ = 2)), .bool (decide (κ = 3)), .bool true]) = true := rfl
      refine ⟨_, rfl, _, _, .lst (SqL.of e5) (.cons (.bl _) (.cons (.bl _) (.cons (.bl _) (.cons (.bl _) (.cons (.bl _) .nil))))), .lst (SqL.of (s5 _ _ e4)) (.cons (.bl _) (.cons (.bl _) (.cons (.bl _) (.cons (.bl _) (.cons (.bl _) .nil))))), hsh, hsh, _, rfl, ?_⟩
      rw [SeqAt.eqv_refl _ hlay]
      exact iteF ⟨⟨_, _, _, rfl⟩, ((((s1.trans s2).trans s3).trans s4).trans s5)⟩
    · rintro σ H1 ⟨⟨x1, x2, x3, rfl⟩, s1⟩
      have pw : CPow 10 30 := ⟨by decide, by decide, by decide +kernel⟩
      refine ⟨10, 30, rfl, rfl, pw, (by show 1 ≤ sizeLine; decide), fun l1 hl1 => ?_⟩
      have t1 : Same H1 (upd H1 l1 (.lst [.int 0])) := same_new hl1
      have e1 : (upd H1 l1 (.lst [.int 0])) l1 = some (.lst (([0] : List Int).map V.int)) := upd_same
      generalize upd H1 l1 (.lst [.int 0]) = H2 at t1 e1 ⊢
      refine ⟨1, rfl, (by show 3 ≤ sizeLine; decide), fun t ht => ?_⟩
      have t2 : Same H2 (upd H2 t (.tup [.int 0, .int 1, .int (-1)])) := same_new ht
      have e2 : (upd H2 t (.tup [.int 0, .int 1, .int (-1)])) t = some (.tup (tri (0, 1, -1))) := upd_same
      generalize upd H2 t (.tup [.int 0, .int 1, .int (-1)]) = H3 at t2 e2 ⊢
      refine ⟨(by show 1 ≤ sizeLine; decide), fun l2 hl2 => ?_⟩
      have t3 : Same H3 (upd H3 l2 (.lst [.ref t])) := same_new hl2
      have e3 : (upd H3 l2 (.lst [.ref t])) l2 = some (.lst ([t].map V.ref)) := upd_same
      generalize upd H3 l2 (.lst [.ref t]) = H4 at t3 e3 ⊢
      refine ⟨_, l1, l2, [0], [t], [(0, 1, -1)], rfl, SqL.of (t3 _ _ (t2 _ _ e1)), SqL.of e3, DsAt.one (t3 _ _ e2), by decide +kernel, fun z hz => ?_, fun d hd => ?_, by decide, (((hTb.same s1).same t1).same t2).same t3, fun H5 p s5 _ hp => ?_⟩
      · rw [List.mem_singleton.mp hz]; exact ⟨by decide, by decide +kernel⟩
      · rw [List.mem_singleton.mp hd]; exact ⟨by decide, by decide, by decide, by decide⟩
      refine ⟨10, 30, rfl, rfl, pw, _, 1, rfl, rfl, (by show 1 ≤ sizeLine; decide), fun l3 hl3 => ?_⟩
      have t6 : Same H5 (upd H5 l3 (.lst [.int ((10 : Int) ^ (30 : Int).toNat - 1)])) := same_new hl3
      have e6 : (upd H5 l3 (.lst [.int ((10 : Int) ^ (30 : Int).toNat - 1)])) l3 = some (.lst (([(10 : Int) ^ (30 : Int).toNat - 1] : List Int).map V.int)) := upd_same
      refine ⟨dI _, dI _, dp_lst (SqL.of (t6 _ _ hp)), dp_lst (SqL.of e6), sh_dI _, sh_dI _, _, rfl, ?_⟩
      rw [eqv_dI, decide_eq_true (by decide +kernel)]
      refine iteT ⟨(by show 3 ≤ sizeLine; decide), fun p1 hp1 => ?_⟩
      have hTb6 := (((((hTb.same s1).same t1).same t2).same t3).same s5).same (t6.trans (same_new (o := .lst [.int 1, .int 2, .int 3]) hp1))
      have f1 : (upd (upd H5 l3 (.lst [.int ((10 : Int) ^ (30 : Int).toNat - 1)])) p1 (.lst [.int 1, .int 2, .int 3])) p1 = some (.lst (([1, 2, 3] : List Int).map V.int)) := upd_same
      generalize upd (upd H5 l3 (.lst [.int ((10 : Int) ^ (30 : Int).toNat - 1)])) p1 (.lst [.int 1, .int 2, .int 3]) = H6 at f1 hTb6 ⊢
      refine ⟨(by show 3 ≤ sizeLine; decide), fun p2 hp2 => ?_⟩
      have t7 : Same H6 (upd H6 p2 (.lst [.int 2, .int 3, .int 4])) := same_new hp2
      have f2 : (upd H6 p2 (.lst [.int 2, .int 3, .int 4])) p2 = some (.lst (([2, 3, 4] : List Int).map V.int)) := upd_same
      generalize upd H6 p2 (.lst [.int 2, .int 3, .int 4]) = H7 at t7 f2 ⊢
      have hTb7 : Tabs Tb H7 := hTb6.same t7
      refine ⟨10, p1, p2, [1, 2, 3], [2, 3, 4], rfl, ⟨SqL.of (t7 _ _ f1), SqL.of f2, rfl, by decide, by decide, by decide +kernel, fun z hz => ?_, fun z hz => ?_, hTb7⟩, fun H8 v s8 hv => ⟨rfl, ?_⟩⟩
      · simp only [List.mem_cons, List.not_mem_nil, or_false] at hz
        rcases hz with e | e | e <;> subst e <;> decide
      · simp only [List.mem_cons, List.not_mem_nil, or_false] at hz
        rcases hz with e | e | e <;> subst e <;> decide
      have hF : Fewest 10 (raw [1, 2, 3] [2, 3, 4]) 1 := (fewest_of (k := 1) (d := [1, 0, 0, -1]) (by decide) (by decide) (by decide) ⟨by decide, by decide⟩ (by decide) (by decide)).1
      rw [decide_eq_true (congrArg V.int ((far_few (by decide) hv).uniq hF))]
      exact q _
end
end DR
namespace DR
open PySem PySem.Spec PyProof.Rows L2
theorem kit_own {K : PySem.W.Frag} {t : Value} {S : Addr} {b : Bool} (h2 : PySem.W.isClsIn K S = true) (h3 : PySem.W.typeIn K (.ref S) = some (.type "type")) (h4 : PySem.W.subIn K t (.ref S) = some b) (h5 : PySem.W.subIn K (.ref S) (.ref S) = some true) : PySem.W.kitOne K t (.ref S) = some b := by
  have e2 : ((PySem.W.clsIn K S).isSome && PySem.W.typeIn K (.ref S) == some (.type "type")) = true := by
    have h2' : (PySem.W.clsIn K S).isSome = true := h2
    rw [h2', h3] <;> rfl
  unfold PySem.W.kitOne
  by_cases e : (t == Value.ref S) = true
  · rw [if_pos e]
    have et : t = .ref S := beq_iff_eq.mp e
    rw [et, h5] at h4
    exact h4
  · rw [if_neg e]
    show (if ((PySem.W.clsIn K S).isSome && PySem.W.typeIn K (.ref S) == some (.type "type")) = true then PySem.W.subIn K t (.ref S) else none) = some b
    rw [if_pos e2]
    exact h4
theorem kit_ve {K : PySem.W.Frag} {C : Addr} (h : PySem.W.subIn K (.ref C) (.type "ValueError") = some true) : PySem.W.kitOne K (.ref C) (.type "ValueError") = some true := by
  unfold PySem.W.kitOne
  rw [if_neg (show ¬ ((Value.ref C == Value.type "ValueError") = true) from fun e => nomatch (beq_iff_eq.mp e))]
  show (if PySem.W.kitMeta "ValueError" = true then PySem.W.subIn K (.ref C) (.type "ValueError") else none) = some true
  rw [if_pos (by decide +kernel)]
  exact h
theorem exm_own {K : PySem.W.Frag} {C S : Addr} (h1 : PySem.W.subIn K (.ref S) (.type "BaseException") = some true) (h2 : PySem.W.isClsIn K S = true) (h3 : PySem.W.typeIn K (.ref S) = some (.type "type")) (h4 : PySem.W.subIn K (.ref C) (.ref S) = some true) : PySem.W.exmOne K (.ref C) (.ref S) = some true := by
  have e1 : (PySem.W.subIn K (.ref S) (.type "BaseException") == some true) = true := by rw [h1] <;> rfl
  have e2 : ((PySem.W.clsIn K S).isSome && PySem.W.typeIn K (.ref S) == some (.type "type")) = true := by
    have h2' : (PySem.W.clsIn K S).isSome = true := h2
    rw [h2', h3] <;> rfl
  unfold PySem.W.exmOne
  rw [if_pos e1]
  show (if ((PySem.W.clsIn K S).isSome && PySem.W.typeIn K (.ref S) == some (.type "type")) = true then PySem.W.subIn K (.ref C) (.ref S) else none) = some true
  rw [if_pos e2]
  exact h4
end DR
namespace DR
open PySem PySem.Spec PyProof.Rows L2
theorem all_mk {l : PySem.W.OpenLaw} {q : Program} {w : World} {K : PySem.W.Frag} {h : Heap} {mg : Str → Option Value} {fa : Addr} (X : K.In h) (G : h.Ns mainGlobals mg) (hfa : mg "law" = some (.ref fa))
    (TT : ∀ (y : Str) (c P : Addr), ((recsOf q).find? fun e => e.name == y).isSome = true → PySem.W.tabIn K y = some (c, P) → PySem.W.CodeHd h c P ∧ h.get? P = some { cls := .none, data := .fields #[] })
    {f1 f2 f3 f4 f5 f6 f7 f8 f9 f10 f11 f12 f13 f14 f15 f16 f17 f18 f19 f20 : Addr}
    {od1 an1 od2 an2 od3 an3 od4 an4 od5 an5 od6 an6 od7 an7 od8 an8 od9 an9 od10 an10 od11 an11 od12 an12 od13 an13 od14 an14 od15 an15 od16 an16 od17 an17 od18 an18 od19 an19 od20 an20 : Option Addr} {sl1 sl2 sl3 sl4 sl5 sl6 sl7 sl8 sl9 sl10 sl11 sl12 sl13 sl14 sl15 sl16 sl17 sl18 sl19 sl20 : Array (Option Value)} {oc1 kV1 dc1 pm1 ct1 cd1 oc2 kV2 dc2 pm2 ct2 cd2 oc3 kV3 dc3 pm3 ct3 cd3 oc4 kV4 dc4 pm4 ct4 cd4 oc5 kV5 dc5 pm5 ct5 oc6 kV6 dc6 pm6 ct6 cd6 oc7 kV7 dc7 pm7 ct7 cd7 oc8 kV8 dc8 pm8 ct8 oc9 kV9 dc9 pm9 ct9 cd9 oc10 kV10 dc10 pm10 ct10 cd10 oc11 kV11 dc11 pm11 ct11 cd11 oc12 kV12 dc12 pm12 ct12 cd12 oc13 kV13 dc13 pm13 ct13 cd13 oc14 kV14 dc14 pm14 ct14 cd14 oc15 kV15 dc15 pm15 ct15 cd15 oc16 kV16 dc16 pm16 ct16 cd16 oc17 kV17 dc17 pm17 ct17 cd17 oc18 kV18 dc18 pm18 ct18 cd18 oc19 kV19 dc19 pm19 ct19 cd19 oc20 kV20 dc20 pm20 ct20 cd20 : Value}
    {c5 P5 c8 P8 : Addr} {ec5 ec8 : Value} {dd5 dd8 : Option Addr} {vs5 vs8 : Array Value} {sc5 sc8 : Array (Option Value)}
    {CD Cs Cr Cd Cu : Addr}
    {C fm0 : Addr} {odm0 anm0 : Option Addr} {slm0 : Array (Option Value)} {ocm0 kVm0 dcm0 pmm0 cdm0 ctm0 : Value}
    (a1 : PySem.W.nsIn K mainGlobals "is_number" = some (some (.ref f1))) (l1 : K.lookup f1 = some ⟨oc1, od1, .func (PySem.W.fnOf "is_number" "is_number" (defArgs sNum) (defBody sNum) (defScope sNum) .none kV1 dc1 pm1 an1 cd1 ct1), sl1⟩) (e1 : PySem.W.codeIn K cd1 "is_number" = true) (k1 : PySem.W.keepIn K (.ref f1) = true)
    (a2 : PySem.W.nsIn K mainGlobals "check_size" = some (some (.ref f2))) (l2 : K.lookup f2 = some ⟨oc2, od2, .func (PySem.W.fnOf "check_size" "check_size" (defArgs sSize) (defBody sSize) (defScope sSize) .none kV2 dc2 pm2 an2 cd2 ct2), sl2⟩) (e2 : PySem.W.codeIn K cd2 "check_size" = true) (k2 : PySem.W.keepIn K (.ref f2) = true)
    (a3 : PySem.W.nsIn K mainGlobals "check_row" = some (some (.ref f3))) (l3 : K.lookup f3 = some ⟨oc3, od3, .func (PySem.W.fnOf "check_row" "check_row" (defArgs sRow) (defBody sRow) (defScope sRow) .none kV3 dc3 pm3 an3 cd3 ct3), sl3⟩) (e3 : PySem.W.codeIn K cd3 "check_row" = true) (k3 : PySem.W.keepIn K (.ref f3) = true)
    (a4 : PySem.W.nsIn K mainGlobals "is_deed" = some (some (.ref f4))) (l4 : K.lookup f4 = some ⟨oc4, od4, .func (PySem.W.fnOf "is_deed" "is_deed" (defArgs sDeed) (defBody sDeed) (defScope sDeed) .none kV4 dc4 pm4 an4 cd4 ct4), sl4⟩) (e4 : PySem.W.codeIn K cd4 "is_deed" = true) (k4 : PySem.W.keepIn K (.ref f4) = true)
    (a5 : PySem.W.nsIn K mainGlobals "are_deeds" = some (some (.ref f5))) (l5 : K.lookup f5 = some ⟨oc5, od5, .func (PySem.W.fnOf "are_deeds" "are_deeds" (defArgs sAre) (defBody sAre) (defScope sAre) .none kV5 dc5 pm5 an5 (.ref c5) ct5), sl5⟩) (e5 : PySem.W.codeIn K (.ref c5) "are_deeds" = true) (k5 : PySem.W.keepIn K (.ref f5) = true)
    (lc5 : K.lookup c5 = some ⟨ec5, dd5, .fields vs5, sc5⟩) (v5 : vs5[11]? = some (.ref P5)) (nP5 : K.lookup P5 = none) (rc5 : ((recsOf q).find? fun e => e.name == ("are_deeds" : Str)).isSome = true)
    (a6 : PySem.W.nsIn K mainGlobals "check_deeds" = some (some (.ref f6))) (l6 : K.lookup f6 = some ⟨oc6, od6, .func (PySem.W.fnOf "check_deeds" "check_deeds" (defArgs sDeeds) (defBody sDeeds) (defScope sDeeds) .none kV6 dc6 pm6 an6 cd6 ct6), sl6⟩) (e6 : PySem.W.codeIn K cd6 "check_deeds" = true) (k6 : PySem.W.keepIn K (.ref f6) = true)
    (a7 : PySem.W.nsIn K mainGlobals "turned" = some (some (.ref f7))) (l7 : K.lookup f7 = some ⟨oc7, od7, .func (PySem.W.fnOf "turned" "turned" (defArgs sTurned) (defBody sTurned) (defScope sTurned) .none kV7 dc7 pm7 an7 cd7 ct7), sl7⟩) (e7 : PySem.W.codeIn K cd7 "turned" = true) (k7 : PySem.W.keepIn K (.ref f7) = true)
    (a8 : PySem.W.nsIn K mainGlobals "steps_of" = some (some (.ref f8))) (l8 : K.lookup f8 = some ⟨oc8, od8, .func (PySem.W.fnOf "steps_of" "steps_of" (defArgs sSteps) (defBody sSteps) (defScope sSteps) .none kV8 dc8 pm8 an8 (.ref c8) ct8), sl8⟩) (e8 : PySem.W.codeIn K (.ref c8) "steps_of" = true) (k8 : PySem.W.keepIn K (.ref f8) = true)
    (lc8 : K.lookup c8 = some ⟨ec8, dd8, .fields vs8, sc8⟩) (v8 : vs8[11]? = some (.ref P8)) (nP8 : K.lookup P8 = none) (rc8 : ((recsOf q).find? fun e => e.name == ("steps_of" : Str)).isSome = true)
    (a9 : PySem.W.nsIn K mainGlobals "gaps_between" = some (some (.ref f9))) (l9 : K.lookup f9 = some ⟨oc9, od9, .func (PySem.W.fnOf "gaps_between" "gaps_between" (defArgs sGaps) (defBody sGaps) (defScope sGaps) .none kV9 dc9 pm9 an9 cd9 ct9), sl9⟩) (e9 : PySem.W.codeIn K cd9 "gaps_between" = true) (k9 : PySem.W.keepIn K (.ref f9) = true)
    (a10 : PySem.W.nsIn K mainGlobals "check_rows" = some (some (.ref f10))) (l10 : K.lookup f10 = some ⟨oc10, od10, .func (PySem.W.fnOf "check_rows" "check_rows" (defArgs sRows) (defBody sRows) (defScope sRows) .none kV10 dc10 pm10 an10 cd10 ct10), sl10⟩) (e10 : PySem.W.codeIn K cd10 "check_rows" = true) (k10 : PySem.W.keepIn K (.ref f10) = true)
    (a11 : PySem.W.nsIn K mainGlobals "least_changes" = some (some (.ref f11))) (l11 : K.lookup f11 = some ⟨oc11, od11, .func (PySem.W.fnOf "least_changes" "least_changes" (defArgs sLeast) (defBody sLeast) (defScope sLeast) .none kV11 dc11 pm11 an11 cd11 ct11), sl11⟩) (e11 : PySem.W.codeIn K cd11 "least_changes" = true) (k11 : PySem.W.keepIn K (.ref f11) = true)
    (a12 : PySem.W.nsIn K mainGlobals "deeds_over" = some (some (.ref f12))) (l12 : K.lookup f12 = some ⟨oc12, od12, .func (PySem.W.fnOf "deeds_over" "deeds_over" (defArgs sOver) (defBody sOver) (defScope sOver) .none kV12 dc12 pm12 an12 cd12 ct12), sl12⟩) (e12 : PySem.W.codeIn K cd12 "deeds_over" = true) (k12 : PySem.W.keepIn K (.ref f12) = true)
    (a13 : PySem.W.nsIn K mainGlobals "best" = some (some (.ref f13))) (l13 : K.lookup f13 = some ⟨oc13, od13, .func (PySem.W.fnOf "best" "best" (defArgs sBest) (defBody sBest) (defScope sBest) .none kV13 dc13 pm13 an13 cd13 ct13), sl13⟩) (e13 : PySem.W.codeIn K cd13 "best" = true) (k13 : PySem.W.keepIn K (.ref f13) = true)
    (a14 : PySem.W.nsIn K mainGlobals "apart" = some (some (.ref f14))) (l14 : K.lookup f14 = some ⟨oc14, od14, .func (PySem.W.fnOf "apart" "apart" (defArgs sApart) (defBody sApart) (defScope sApart) .none kV14 dc14 pm14 an14 cd14 ct14), sl14⟩) (e14 : PySem.W.codeIn K cd14 "apart" = true) (k14 : PySem.W.keepIn K (.ref f14) = true)
    (a15 : PySem.W.nsIn K mainGlobals "level" = some (some (.ref f15))) (l15 : K.lookup f15 = some ⟨oc15, od15, .func (PySem.W.fnOf "level" "level" (defArgs sLevel) (defBody sLevel) (defScope sLevel) .none kV15 dc15 pm15 an15 cd15 ct15), sl15⟩) (e15 : PySem.W.codeIn K cd15 "level" = true) (k15 : PySem.W.keepIn K (.ref f15) = true)
    (a16 : PySem.W.nsIn K mainGlobals "_law_ask" = some (some (.ref f16))) (l16 : K.lookup f16 = some ⟨oc16, od16, .func (PySem.W.fnOf "_law_ask" "_law_ask" (defArgs lAsk) (defBody lAsk) (defScope lAsk) .none kV16 dc16 pm16 an16 cd16 ct16), sl16⟩) (e16 : PySem.W.codeIn K cd16 "_law_ask" = true) (k16 : PySem.W.keepIn K (.ref f16) = true)
    (a17 : PySem.W.nsIn K mainGlobals "_law_rows_asked" = some (some (.ref f17))) (l17 : K.lookup f17 = some ⟨oc17, od17, .func (PySem.W.fnOf "_law_rows_asked" "_law_rows_asked" (defArgs lRowsAsked) (defBody lRowsAsked) (defScope lRowsAsked) .none kV17 dc17 pm17 an17 cd17 ct17), sl17⟩) (e17 : PySem.W.codeIn K cd17 "_law_rows_asked" = true) (k17 : PySem.W.keepIn K (.ref f17) = true)
    (a18 : PySem.W.nsIn K mainGlobals "_law_deeds_asked" = some (some (.ref f18))) (l18 : K.lookup f18 = some ⟨oc18, od18, .func (PySem.W.fnOf "_law_deeds_asked" "_law_deeds_asked" (defArgs lDeedsAsked) (defBody lDeedsAsked) (defScope lDeedsAsked) .none kV18 dc18 pm18 an18 cd18 ct18), sl18⟩) (e18 : PySem.W.codeIn K cd18 "_law_deeds_asked" = true) (k18 : PySem.W.keepIn K (.ref f18) = true)
    (a19 : PySem.W.nsIn K mainGlobals "_law_told" = some (some (.ref f19))) (l19 : K.lookup f19 = some ⟨oc19, od19, .func (PySem.W.fnOf "_law_told" "_law_told" (defArgs lTold) (defBody lTold) (defScope lTold) .none kV19 dc19 pm19 an19 cd19 ct19), sl19⟩) (e19 : PySem.W.codeIn K cd19 "_law_told" = true) (k19 : PySem.W.keepIn K (.ref f19) = true)
    (a20 : PySem.W.nsIn K mainGlobals "law" = some (some (.ref f20))) (l20 : K.lookup f20 = some ⟨oc20, od20, .func (PySem.W.fnOf "law" "law" (defArgs sLaw) (defBody sLaw) (defScope sLaw) .none kV20 dc20 pm20 an20 cd20 ct20), sl20⟩) (e20 : PySem.W.codeIn K cd20 "law" = true) (k20 : PySem.W.keepIn K (.ref f20) = true)
    (z0 : PySem.W.nsIn K mainGlobals "isinstance" = some none)
    (z1 : PySem.W.nsIn K mainGlobals "int" = some none)
    (z2 : PySem.W.nsIn K mainGlobals "bool" = some none)
    (z3 : PySem.W.nsIn K mainGlobals "list" = some none)
    (z4 : PySem.W.nsIn K mainGlobals "tuple" = some none)
    (z5 : PySem.W.nsIn K mainGlobals "len" = some none)
    (z6 : PySem.W.nsIn K mainGlobals "enumerate" = some none)
    (z7 : PySem.W.nsIn K mainGlobals "sum" = some none)
    (z8 : PySem.W.nsIn K mainGlobals "range" = some none)
    (z9 : PySem.W.nsIn K mainGlobals "all" = some none)
    (z10 : PySem.W.nsIn K mainGlobals "zip" = some none)
    (z11 : PySem.W.nsIn K mainGlobals "min" = some none)
    (z12 : PySem.W.nsIn K mainGlobals "abs" = some none)
    (z13 : PySem.W.nsIn K mainGlobals "sorted" = some none)
    (aC : PySem.W.nsIn K mainGlobals "Best" = some (some (.ref C)))
    (am0 : PySem.W.findIn K (.ref C) "__init__" = some (some (.ref fm0)))
    (im0 : PySem.W.isFn K (.ref fm0) = true)
    (lm0 : K.lookup fm0 = some ⟨ocm0, odm0, .func (PySem.W.fnOf "__init__" "Best.__init__" (defArgs cBest_init) (defBody cBest_init) (defScope cBest_init) .none kVm0 dcm0 pmm0 anm0 cdm0 ctm0), slm0⟩)
    (em0 : PySem.W.codeIn K cdm0 "Best.__init__" = true)
    (km0 : PySem.W.keepIn K (.ref fm0) = true)
    (pg : PySem.W.plainGet K C Str.empty = true)
    (hd : PySem.W.hasDictIn K C = true)
    (po : PySem.W.plainOver K C = true)
    (sa : PySem.W.findIn K (.ref C) "__setattr__" = some (some (.builtin "object.__setattr__")))
    (mkC : PySem.W.makesIn K C = true)
    (kcC : PySem.W.keepIn K (.ref C) = true)
    (nD : PySem.W.findIn K (.ref C) "deeds" = some none)
    (nM : PySem.W.findIn K (.ref C) "mark" = some none)
    (haC : PySem.W.findIn K (.ref C) "__class__" = some (some (.builtin "object.__class__")))
    (hnC : PySem.W.specialIn K (.builtin "object.__class__") "__get__" = some (some (.builtin "getset_descriptor.__get__")))
    (htC : PySem.W.takesIn K (.builtin "object.__class__") = some true)
    (hmC : PySem.W.mroIn K C (.type "object") = some true)
    (aDE : PySem.W.nsIn K mainGlobals "DialError" = some (some (.ref CD)))
    (zVE : PySem.W.nsIn K mainGlobals "ValueError" = some none)
    (sDE : PySem.W.subIn K (.ref CD) (.type "BaseException") = some true)
    (iDE : PySem.W.isClsIn K CD = true)
    (tDE : PySem.W.typeIn K (.ref CD) = some (.type "type"))
    (aE1 : PySem.W.nsIn K mainGlobals "BadSize" = some (some (.ref Cs)))
    (qE1 : PySem.W.excIn K Cs [.type "ValueError", .type "Exception", .type "BaseException", .type "object"] "ValueError.__new__" = true)
    (kE1 : PySem.W.keepIn K (.ref Cs) = true)
    (sE1 : PySem.W.subIn K (.ref Cs) (.type "BaseException") = some true)
    (tE1 : PySem.W.typeIn K (.ref Cs) = some (.type "type"))
    (hgE1 : PySem.W.findIn K (.ref Cs) "__getattribute__" = some (some (.builtin "BaseException.__getattribute__")))
    (hkE1 : PySem.W.findIn K (.ref Cs) "__getattr__" = some none)
    (hdE1 : PySem.W.hasDictIn K Cs = true)
    (haE1 : PySem.W.findIn K (.ref Cs) "__class__" = some (some (.builtin "object.__class__")))
    (hmE1 : PySem.W.mroIn K Cs (.type "object") = some true)
    (iE1 : PySem.W.isClsIn K Cs = true)
    (xE1 : PySem.W.subIn K (.ref Cs) (.ref CD) = some true)
    (vE1 : PySem.W.subIn K (.ref Cs) (.type "ValueError") = some true)
    (aE2 : PySem.W.nsIn K mainGlobals "BadRow" = some (some (.ref Cr)))
    (qE2 : PySem.W.excIn K Cr [.type "ValueError", .type "Exception", .type "BaseException", .type "object"] "ValueError.__new__" = true)
    (kE2 : PySem.W.keepIn K (.ref Cr) = true)
    (sE2 : PySem.W.subIn K (.ref Cr) (.type "BaseException") = some true)
    (tE2 : PySem.W.typeIn K (.ref Cr) = some (.type "type"))
    (hgE2 : PySem.W.findIn K (.ref Cr) "__getattribute__" = some (some (.builtin "BaseException.__getattribute__")))
    (hkE2 : PySem.W.findIn K (.ref Cr) "__getattr__" = some none)
    (hdE2 : PySem.W.hasDictIn K Cr = true)
    (haE2 : PySem.W.findIn K (.ref Cr) "__class__" = some (some (.builtin "object.__class__")))
    (hmE2 : PySem.W.mroIn K Cr (.type "object") = some true)
    (iE2 : PySem.W.isClsIn K Cr = true)
    (xE2 : PySem.W.subIn K (.ref Cr) (.ref CD) = some true)
    (vE2 : PySem.W.subIn K (.ref Cr) (.type "ValueError") = some true)
    (aE3 : PySem.W.nsIn K mainGlobals "BadDeeds" = some (some (.ref Cd)))
    (qE3 : PySem.W.excIn K Cd [.type "ValueError", .type "Exception", .type "BaseException", .type "object"] "ValueError.__new__" = true)
    (kE3 : PySem.W.keepIn K (.ref Cd) = true)
    (sE3 : PySem.W.subIn K (.ref Cd) (.type "BaseException") = some true)
    (tE3 : PySem.W.typeIn K (.ref Cd) = some (.type "type"))
    (hgE3 : PySem.W.findIn K (.ref Cd) "__getattribute__" = some (some (.builtin "BaseException.__getattribute__")))
    (hkE3 : PySem.W.findIn K (.ref Cd) "__getattr__" = some none)
    (hdE3 : PySem.W.hasDictIn K Cd = true)
    (haE3 : PySem.W.findIn K (.ref Cd) "__class__" = some (some (.builtin "object.__class__")))
    (hmE3 : PySem.W.mroIn K Cd (.type "object") = some true)
    (iE3 : PySem.W.isClsIn K Cd = true)
    (xE3 : PySem.W.subIn K (.ref Cd) (.ref CD) = some true)
    (vE3 : PySem.W.subIn K (.ref Cd) (.type "ValueError") = some true)
    (aE4 : PySem.W.nsIn K mainGlobals "Unlike" = some (some (.ref Cu)))
    (qE4 : PySem.W.excIn K Cu [.type "ValueError", .type "Exception", .type "BaseException", .type "object"] "ValueError.__new__" = true)
    (kE4 : PySem.W.keepIn K (.ref Cu) = true)
    (sE4 : PySem.W.subIn K (.ref Cu) (.type "BaseException") = some true)
    (tE4 : PySem.W.typeIn K (.ref Cu) = some (.type "type"))
    (hgE4 : PySem.W.findIn K (.ref Cu) "__getattribute__" = some (some (.builtin "BaseException.__getattribute__")))
    (hkE4 : PySem.W.findIn K (.ref Cu) "__getattr__" = some none)
    (hdE4 : PySem.W.hasDictIn K Cu = true)
    (haE4 : PySem.W.findIn K (.ref Cu) "__class__" = some (some (.builtin "object.__class__")))
    (hmE4 : PySem.W.mroIn K Cu (.type "object") = some true)
    (iE4 : PySem.W.isClsIn K Cu = true)
    (xE4 : PySem.W.subIn K (.ref Cu) (.ref CD) = some true)
    (vE4 : PySem.W.subIn K (.ref Cu) (.type "ValueError") = some true)
    (k1E1 : PySem.W.subIn K (.ref Cs) (.ref Cs) = some true)
    (k2E1 : PySem.W.subIn K (.ref Cs) (.ref Cr) = some false)
    (k3E1 : PySem.W.subIn K (.ref Cs) (.ref Cd) = some false)
    (k4E1 : PySem.W.subIn K (.ref Cs) (.ref Cu) = some false)
    (k1E2 : PySem.W.subIn K (.ref Cr) (.ref Cs) = some false)
    (k2E2 : PySem.W.subIn K (.ref Cr) (.ref Cr) = some true)
    (k3E2 : PySem.W.subIn K (.ref Cr) (.ref Cd) = some false)
    (k4E2 : PySem.W.subIn K (.ref Cr) (.ref Cu) = some false)
    (k1E3 : PySem.W.subIn K (.ref Cd) (.ref Cs) = some false)
    (k2E3 : PySem.W.subIn K (.ref Cd) (.ref Cr) = some false)
    (k3E3 : PySem.W.subIn K (.ref Cd) (.ref Cd) = some true)
    (k4E3 : PySem.W.subIn K (.ref Cd) (.ref Cu) = some false)
    (k1E4 : PySem.W.subIn K (.ref Cu) (.ref Cs) = some false)
    (k2E4 : PySem.W.subIn K (.ref Cu) (.ref Cr) = some false)
    (k3E4 : PySem.W.subIn K (.ref Cu) (.ref Cd) = some false)
    (k4E4 : PySem.W.subIn K (.ref Cu) (.ref Cu) = some true)
    : LamX.LawAtS l w K CX0 14 63 "_law_script" mg fa h := by
  have e := hfa.symm.trans (PySem.W.mg_of X G a20)
  cases e
  have B : Blt mg := ⟨PySem.W.mg_none_of X G z0, PySem.W.mg_none_of X G z1, PySem.W.mg_none_of X G z2, PySem.W.mg_none_of X G z3, PySem.W.mg_none_of X G z4, PySem.W.mg_none_of X G z5, PySem.W.mg_none_of X G z6, PySem.W.mg_none_of X G z7, PySem.W.mg_none_of X G z8, PySem.W.mg_none_of X G z9⟩
  have B2 : Blt2 mg := ⟨PySem.W.mg_none_of X G z10, PySem.W.mg_none_of X G z11, PySem.W.mg_none_of X G z12⟩
  have B3 : Blt3 mg := ⟨PySem.W.mg_none_of X G z13⟩
  have D1 : Def K mg "is_number" sNum ["thing"] := def_mk X G a1 l1 e1 k1 fun _ _ _ _ _ _ us hl => match us, hl with | [_], _ => rfl
  have D2 : Def K mg "check_size" sSize ["size"] := def_mk X G a2 l2 e2 k2 fun _ _ _ _ _ _ us hl => match us, hl with | [_], _ => rfl
  have D3 : Def K mg "check_row" sRow ["size", "row"] := def_mk X G a3 l3 e3 k3 fun _ _ _ _ _ _ us hl => match us, hl with | [_, _], _ => rfl
  have D4 : Def K mg "is_deed" sDeed ["dials", "thing"] := def_mk X G a4 l4 e4 k4 fun _ _ _ _ _ _ us hl => match us, hl with | [_, _], _ => rfl
  have D5 : DefT K mg "are_deeds" sAre ["dials", "things"] c5 := defT_mk X G a5 l5 e5 k5 fun _ _ _ _ _ _ us hl => match us, hl with | [_, _], _ => rfl
  have U5 := TT "are_deeds" c5 P5 rc5 (tabIn_of a5 l5 rfl lc5 v5)
  have D6 : Def K mg "check_deeds" sDeeds ["dials", "deeds"] := def_mk X G a6 l6 e6 k6 fun _ _ _ _ _ _ us hl => match us, hl with | [_, _], _ => rfl
  have D7 : Def K mg "turned" sTurned ["size", "row", "deeds"] := def_mk X G a7 l7 e7 k7 fun _ _ _ _ _ _ us hl => match us, hl with | [_, _, _], _ => rfl
  have D8 : DefT K mg "steps_of" sSteps ["deeds"] c8 := defT_mk X G a8 l8 e8 k8 fun _ _ _ _ _ _ us hl => match us, hl with | [_], _ => rfl
  have U8 := TT "steps_of" c8 P8 rc8 (tabIn_of a8 l8 rfl lc8 v8)
  have D9 : Def K mg "gaps_between" sGaps ["size", "one", "other"] := def_mk X G a9 l9 e9 k9 fun _ _ _ _ _ _ us hl => match us, hl with | [_, _, _], _ => rfl
  have D10 : Def K mg "check_rows" sRows ["size", "one", "other"] := def_mk X G a10 l10 e10 k10 fun _ _ _ _ _ _ us hl => match us, hl with | [_, _, _], _ => rfl
  have D11 : Def K mg "least_changes" sLeast ["size", "gaps"] := def_mk X G a11 l11 e11 k11 fun _ _ _ _ _ _ us hl => match us, hl with | [_, _], _ => rfl
  have D12 : Def K mg "deeds_over" sOver ["changes"] := def_mk X G a12 l12 e12 k12 fun _ _ _ _ _ _ us hl => match us, hl with | [_], _ => rfl
  have D13 : Def K mg "best" sBest ["size", "one", "other"] := def_mk X G a13 l13 e13 k13 fun _ _ _ _ _ _ us hl => match us, hl with | [_, _, _], _ => rfl
  have D14 : Def K mg "apart" sApart ["size", "one", "other"] := def_mk X G a14 l14 e14 k14 fun _ _ _ _ _ _ us hl => match us, hl with | [_, _, _], _ => rfl
  have D15 : Def K mg "level" sLevel ["size", "row"] := def_mk X G a15 l15 e15 k15 fun _ _ _ _ _ _ us hl => match us, hl with | [_, _], _ => rfl
  have D16 : Def K mg "_law_ask" lAsk ["_law_door", "_law_size", "_law_one", "_law_other"] := def_mk X G a16 l16 e16 k16 fun _ _ _ _ _ _ us hl => match us, hl with | [_, _, _, _], _ => rfl
  have D17 : Def K mg "_law_rows_asked" lRowsAsked ["_law_which", "_law_more"] := def_mk X G a17 l17 e17 k17 fun _ _ _ _ _ _ us hl => match us, hl with | [_, _], _ => rfl
  have D18 : Def K mg "_law_deeds_asked" lDeedsAsked ["_law_which", "_law_more"] := def_mk X G a18 l18 e18 k18 fun _ _ _ _ _ _ us hl => match us, hl with | [_, _], _ => rfl
  have D19 : Def K mg "_law_told" lTold ["_law_kind", "_law_which", "_law_more"] := def_mk X G a19 l19 e19 k19 fun _ _ _ _ _ _ us hl => match us, hl with | [_, _, _], _ => rfl
  have D20 : Def K mg "law" sLaw ["_law_script"] := def_mk X G a20 l20 e20 k20 fun _ _ _ _ _ _ us hl => match us, hl with | [_], _ => rfl
  have T : BestCls K mg C := ⟨⟨pg, hd, po, sa⟩, nD, nM, PySem.W.mg_of X G aC, haC, hnC, htC, hmC⟩
  have DM0 : DefM K "__init__" "Best.__init__" cBest_init ["self", "deeds", "mark"] fm0 := defM_mk lm0 em0 km0 fun _ _ _ _ _ _ us hl => match us, hl with | [_, _, _], _ => rfl
  have MK : Mk K C fm0 := ⟨mkC, am0, im0, kcC⟩
  have gv : mg "ValueError" = none := PySem.W.mg_none_of X G zVE
  have gD : mg "DialError" = some (.ref CD) := PySem.W.mg_of X G aDE
  have T1 : ErrCls K mg "BadSize" Cs := ⟨PySem.W.mg_of X G aE1, ⟨_, _, _, _, F.excBase_ValueError, qE1⟩, kE1, sE1, tE1⟩
  have F1 : ErrFacts K CD Cs Cr Cd Cu Cs true false false false := ⟨⟨hgE1, hkE1, sE1, hdE1, haE1, hnC, htC, hmE1⟩, exm_own sDE iDE tDE xE1, kit_own iE1 tE1 k1E1 k1E1, kit_own iE2 tE2 k2E1 k2E2, kit_own iE3 tE3 k3E1 k3E3, kit_own iE4 tE4 k4E1 k4E4, kit_ve vE1⟩
  have T2 : ErrCls K mg "BadRow" Cr := ⟨PySem.W.mg_of X G aE2, ⟨_, _, _, _, F.excBase_ValueError, qE2⟩, kE2, sE2, tE2⟩
  have F2 : ErrFacts K CD Cs Cr Cd Cu Cr false true false false := ⟨⟨hgE2, hkE2, sE2, hdE2, haE2, hnC, htC, hmE2⟩, exm_own sDE iDE tDE xE2, kit_own iE1 tE1 k1E2 k1E1, kit_own iE2 tE2 k2E2 k2E2, kit_own iE3 tE3 k3E2 k3E3, kit_own iE4 tE4 k4E2 k4E4, kit_ve vE2⟩
  have T3 : ErrCls K mg "BadDeeds" Cd := ⟨PySem.W.mg_of X G aE3, ⟨_, _, _, _, F.excBase_ValueError, qE3⟩, kE3, sE3, tE3⟩
  have F3 : ErrFacts K CD Cs Cr Cd Cu Cd false false true false := ⟨⟨hgE3, hkE3, sE3, hdE3, haE3, hnC, htC, hmE3⟩, exm_own sDE iDE tDE xE3, kit_own iE1 tE1 k1E3 k1E1, kit_own iE2 tE2 k2E3 k2E2, kit_own iE3 tE3 k3E3 k3E3, kit_own iE4 tE4 k4E3 k4E4, kit_ve vE3⟩
  have T4 : ErrCls K mg "Unlike" Cu := ⟨PySem.W.mg_of X G aE4, ⟨_, _, _, _, F.excBase_ValueError, qE4⟩, kE4, sE4, tE4⟩
  have F4 : ErrFacts K CD Cs Cr Cd Cu Cu false false false true := ⟨⟨hgE4, hkE4, sE4, hdE4, haE4, hnC, htC, hmE4⟩, exm_own sDE iDE tDE xE4, kit_own iE1 tE1 k1E4 k1E1, kit_own iE2 tE2 k2E4 k2E2, kit_own iE3 tE3 k3E4 k3E3, kit_own iE4 tE4 k4E4 k4E4, kit_ve vE4⟩
  refine ⟨PySem.W.fnOf "law" "law" (defArgs sLaw) (defBody sLaw) (defScope sLaw) .none kV20 dc20 pm20 an20 cd20 ct20, [(c5, P5), (c8, P8)], spLaw [P5, P8] K, ?_, ?_, ?_, fun s v => .of_eq rfl, ?_, fun base _ _ TB => ?_⟩
  · intro p hp
    simp only [List.mem_cons, List.not_mem_nil, or_false] at hp
    rcases hp with rfl | rfl
    · exact U5.2
    · exact U8.2
  · intro p hp
    simp only [List.mem_cons, List.not_mem_nil, or_false] at hp
    rcases hp with rfl | rfl
    · exact nP5
    · exact nP8
  · intro p hp
    simp only [List.mem_cons, List.not_mem_nil, or_false] at hp
    rcases hp with rfl | rfl
    · exact U5.1
    · exact U8.1
  · intro H a ns hl hb hc hS
    have ht : Tabs [P5, P8] H := tabs_of (cs := [(c5, P5), (c8, P8)]) hc
    exact ⟨a, ns, rfl, hS, hl, hb, ht, fun _ => rfl⟩
  · have TB5 := tb_of (TB (c5, P5) (by simp))
    have TB8 := tb_of (TB (c8, P8) (by simp))
    have GN := ok_num (P := l.prog) (w := w) (base := base) D1 B
    have GZ := ok_size D2 GN
    have GR := ok_row D3 B GN
    have GA := ok_are (T := [P5, P8]) D5 TB5 (by simp) B (ok_deedB D4 B GN)
    have GT := ok_turned D7 B GZ GR (ok_deeds D6 B GA)
    have GS := ok_steps (P := l.prog) (w := w) (base := base) (T := [P5, P8]) D8 TB8 (by simp) B B2
    have GG := ok_gaps (P := l.prog) (w := w) (base := base) D9 B2
    have GL := ok_least (P := l.prog) (w := w) (base := base) D11 B B3
    have GO := ok_over (P := l.prog) (w := w) (base := base) D12 B B2
    have GK := ok_init (P := l.prog) (w := w) (base := base) DM0 MK B T
    have GB := ok_best (Tb := [P5, P8]) D13 B T (ok_rows D10 B GZ GR) GG GL GO GK
    have GP := ok_apart D14 T GB GS
    have GZX := ok_sizeX D2 GN T1
    have GRX := ok_rowX D3 B GN T2
    have GTX := ok_turnedX D7 B GZX GRX (ok_deedsX D6 B GA T3)
    have GBX := ok_bestX D13 B T (ok_rowsX D10 B GZX GRX T4) GG GL GO GK
    have GPX := ok_apartX D14 T GBX GS
    have GVX := ok_levelX D15 B GZX GRX GB
    have LA := ok_lAsk D16 (GTX.mono (by decide)) (GVX.mono (by decide)) (GBX.mono (by decide)) (GPX.mono (by decide))
    have LR := ok_lRows D17 B LA (GBX.mono (by decide)) (GPX.mono (by decide))
    have LD := ok_lDAsk D18 (GTX.mono (by decide))
    have LT := ok_lTold D19 B gD (PySem.W.mg_of X G aE1) (PySem.W.mg_of X G aE2) (PySem.W.mg_of X G aE3) (PySem.W.mg_of X G aE4) gv F1 F2 F3 F4 LA LR (LD.mono (by decide))
    exact (ok_law D20 B LT (GT.mono (by decide)) (GP.mono (by decide))).at (PySem.W.mg_of X G a20) l20
end DR
open PySem PySem.W PyProof.Rows
set_option maxRecDepth 100000 in
set_option maxHeartbeats 0 in
theorem PySem.Challenge.cw_dialrow_k06_refused_holds : PySem.Challenge.rw_dialrow_k06_refused.Holds := by
  w_on; o_law; k_head; (case hw => w_witness2)
  k_fill
  refine DR.walk_ofD (l := PySem.Challenge.rw_dialrow_k06_refused) (n := 63) (k := 14) (x := "_law_script") (CX := fun w => L2.CX0) rfl (by decide) rfl ⟨rfl, by decide, by decide⟩ (fun w h Y => PySem.W.kIn_of Y) ?F (fun _ _ _ _ _ h => h)
  case F =>
    intro w mg fa h Y KX G hmg TT
    refine' DR.all_mk KX G hmg TT ?a1 ?l1 ?e1 ?k1 ?a2 ?l2 ?e2 ?k2 ?a3 ?l3 ?e3 ?k3 ?a4 ?l4 ?e4 ?k4 ?a5 ?l5 ?e5 ?k5 ?lc5 ?v5 ?nP5 ?rc5 ?a6 ?l6 ?e6 ?k6 ?a7 ?l7 ?e7 ?k7 ?a8 ?l8 ?e8 ?k8 ?lc8 ?v8 ?nP8 ?rc8 ?a9 ?l9 ?e9 ?k9 ?a10 ?l10 ?e10 ?k10 ?a11 ?l11 ?e11 ?k11 ?a12 ?l12 ?e12 ?k12 ?a13 ?l13 ?e13 ?k13 ?a14 ?l14 ?e14 ?k14 ?a15 ?l15 ?e15 ?k15 ?a16 ?l16 ?e16 ?k16 ?a17 ?l17 ?e17 ?k17 ?a18 ?l18 ?e18 ?k18 ?a19 ?l19 ?e19 ?k19 ?a20 ?l20 ?e20 ?k20 ?z0 ?z1 ?z2 ?z3 ?z4 ?z5 ?z6 ?z7 ?z8 ?z9 ?z10 ?z11 ?z12 ?z13 ?aC ?am0 ?im0 ?lm0 ?em0 ?km0 ?pg ?hd ?po ?sa ?mkC ?kcC ?nD ?nM ?haC ?hnC ?htC ?hmC ?aDE ?zVE ?sDE ?iDE ?tDE ?aE1 ?qE1 ?kE1 ?sE1 ?tE1 ?hgE1 ?hkE1 ?hdE1 ?haE1 ?hmE1 ?iE1 ?xE1 ?vE1 ?aE2 ?qE2 ?kE2 ?sE2 ?tE2 ?hgE2 ?hkE2 ?hdE2 ?haE2 ?hmE2 ?iE2 ?xE2 ?vE2 ?aE3 ?qE3 ?kE3 ?sE3 ?tE3 ?hgE3 ?hkE3 ?hdE3 ?haE3 ?hmE3 ?iE3 ?xE3 ?vE3 ?aE4 ?qE4 ?kE4 ?sE4 ?tE4 ?hgE4 ?hkE4 ?hdE4 ?haE4 ?hmE4 ?iE4 ?xE4 ?vE4 ?k1E1 ?k2E1 ?k3E1 ?k4E1 ?k1E2 ?k2E2 ?k3E2 ?k4E2 ?k1E3 ?k2E3 ?k3E3 ?k4E3 ?k1E4 ?k2E4 ?k3E4 ?k4E4
    (case a1 => k_is)
    (case l1 => k_is)
    (case e1 => k_is)
    (case k1 => k_is)
    (case a2 => k_is)
    (case l2 => k_is)
    (case e2 => k_is)
    (case k2 => k_is)
    (case a3 => k_is)
    (case l3 => k_is)
    (case e3 => k_is)
    (case k3 => k_is)
    (case a4 => k_is)
    (case l4 => k_is)
    (case e4 => k_is)
    (case k4 => k_is)
    (case a5 => k_is)
    (case l5 => k_is)
    (case e5 => k_is)
    (case k5 => k_is)
    (case lc5 => k_is)
    (case v5 => exact rfl)
    (case nP5 => kernel_rfl)
    (case rc5 => kernel_rfl)
    (case a6 => k_is)
    (case l6 => k_is)
    (case e6 => k_is)
    (case k6 => k_is)
    (case a7 => k_is)
    (case l7 => k_is)
    (case e7 => k_is)
    (case k7 => k_is)
    (case a8 => k_is)
    (case l8 => k_is)
    (case e8 => k_is)
    (case k8 => k_is)
    (case lc8 => k_is)
    (case v8 => exact rfl)
    (case nP8 => kernel_rfl)
    (case rc8 => kernel_rfl)
    (case a9 => k_is)
    (case l9 => k_is)
    (case e9 => k_is)
    (case k9 => k_is)
    (case a10 => k_is)
    (case l10 => k_is)
    (case e10 => k_is)
    (case k10 => k_is)
    (case a11 => k_is)
    (case l11 => k_is)
    (case e11 => k_is)
    (case k11 => k_is)
    (case a12 => k_is)
    (case l12 => k_is)
    (case e12 => k_is)
    (case k12 => k_is)
    (case a13 => k_is)
    (case l13 => k_is)
    (case e13 => k_is)
    (case k13 => k_is)
    (case a14 => k_is)
    (case l14 => k_is)
    (case e14 => k_is)
    (case k14 => k_is)
    (case a15 => k_is)
    (case l15 => k_is)
    (case e15 => k_is)
    (case k15 => k_is)
    (case a16 => k_is)
    (case l16 => k_is)
    (case e16 => k_is)
    (case k16 => k_is)
    (case a17 => k_is)
    (case l17 => k_is)
    (case e17 => k_is)
    (case k17 => k_is)
    (case a18 => k_is)
    (case l18 => k_is)
    (case e18 => k_is)
    (case k18 => k_is)
    (case a19 => k_is)
    (case l19 => k_is)
    (case e19 => k_is)
    (case k19 => k_is)
    (case a20 => k_is)
    (case l20 => k_is)
    (case e20 => k_is)
    (case k20 => k_is)
    (case z0 => k_is)
    (case z1 => k_is)
    (case z2 => k_is)
    (case z3 => k_is)
    (case z4 => k_is)
    (case z5 => k_is)
    (case z6 => k_is)
    (case z7 => k_is)
    (case z8 => k_is)
    (case z9 => k_is)
    (case z10 => k_is)
    (case z11 => k_is)
    (case z12 => k_is)
    (case z13 => k_is)
    (case aC => k_is)
    (case am0 => k_is)
    (case im0 => k_is)
    (case lm0 => k_is)
    (case em0 => k_is)
    (case km0 => k_is)
    (case pg => k_is)
    (case hd => k_is)
    (case po => k_is)
    (case sa => k_is)
    (case mkC => k_is)
    (case kcC => k_is)
    (case nD => k_is)
    (case nM => k_is)
    (case haC => k_is)
    (case hnC => k_is)
    (case htC => k_is)
    (case hmC => k_is)
    (case aDE => k_is)
    (case zVE => k_is)
    (case sDE => k_is)
    (case iDE => k_is)
    (case tDE => k_is)
    (case aE1 => k_is)
    (case qE1 => k_exc)
    (case kE1 => k_is)
    (case sE1 => k_is)
    (case tE1 => k_is)
    (case hgE1 => k_is)
    (case hkE1 => k_is)
    (case hdE1 => k_is)
    (case haE1 => k_is)
    (case hmE1 => k_is)
    (case iE1 => k_is)
    (case xE1 => first | k_is | kernel_rfl)
    (case vE1 => first | k_is | kernel_rfl)
    (case aE2 => k_is)
    (case qE2 => k_exc)
    (case kE2 => k_is)
    (case sE2 => k_is)
    (case tE2 => k_is)
    (case hgE2 => k_is)
    (case hkE2 => k_is)
    (case hdE2 => k_is)
    (case haE2 => k_is)
    (case hmE2 => k_is)
    (case iE2 => k_is)
    (case xE2 => first | k_is | kernel_rfl)
    (case vE2 => first | k_is | kernel_rfl)
    (case aE3 => k_is)
    (case qE3 => k_exc)
    (case kE3 => k_is)
    (case sE3 => k_is)
    (case tE3 => k_is)
    (case hgE3 => k_is)
    (case hkE3 => k_is)
    (case hdE3 => k_is)
    (case haE3 => k_is)
    (case hmE3 => k_is)
    (case iE3 => k_is)
    (case xE3 => first | k_is | kernel_rfl)
    (case vE3 => first | k_is | kernel_rfl)
    (case aE4 => k_is)
    (case qE4 => k_exc)
    (case kE4 => k_is)
    (case sE4 => k_is)
    (case tE4 => k_is)
    (case hgE4 => k_is)
    (case hkE4 => k_is)
    (case hdE4 => k_is)
    (case haE4 => k_is)
    (case hmE4 => k_is)
    (case iE4 => k_is)
    (case xE4 => first | k_is | kernel_rfl)
    (case vE4 => first | k_is | kernel_rfl)
    (case k1E1 => first | k_is | kernel_rfl)
    (case k2E1 => first | k_is | kernel_rfl)
    (case k3E1 => first | k_is | kernel_rfl)
    (case k4E1 => first | k_is | kernel_rfl)
    (case k1E2 => first | k_is | kernel_rfl)
    (case k2E2 => first | k_is | kernel_rfl)
    (case k3E2 => first | k_is | kernel_rfl)
    (case k4E2 => first | k_is | kernel_rfl)
    (case k1E3 => first | k_is | kernel_rfl)
    (case k2E3 => first | k_is | kernel_rfl)
    (case k3E3 => first | k_is | kernel_rfl)
    (case k4E3 => first | k_is | kernel_rfl)
    (case k1E4 => first | k_is | kernel_rfl)
    (case k2E4 => first | k_is | kernel_rfl)
    (case k3E4 => first | k_is | kernel_rfl)
    (case k4E4 => first | k_is | kernel_rfl)
#print axioms PySem.Challenge.cw_dialrow_k06_refused_holds
