import PyProof.Rows.All
import Wide.All
import OpenK.AllK
import Wide.FinOn
import KE.GoesMore
import HandS.Base
import HandS.Call
import HandS.List
import HandS.Comp
import HandS.AnyAll
import HandS.GenList
import PyProof.SumAny
import HandS.Words
import HandS.Ends
import HandS.EndBits
import HandS.Iter
import HandS.WordsList
import HandS.IsInst
import HandS.Walk
import HandS.Wide
import HandS.Evl
import HandS.Style
import KE.IntBitsLaws
import HandS.EndTab
import PySem.Challenge.RW_dialrow_k03_whole_apart
import HandS.Zip
import HandS.SortRule
import HandS.Dict
set_option Elab.async false
set_option linter.all false
set_option maxRecDepth 100000
set_option maxHeartbeats 4000000
/-! Dialrow: the mathematics of deeds. -/
namespace DR
abbrev Deed := Int × Int × Int
/-- how far the dial at i is turned by deeds -/
def cover : List Deed → Int → Int
  | [], _ => 0
  | d :: r, i => (if d.1 ≤ i ∧ i < d.2.1 then d.2.2 else 0) + cover r i
theorem cover_append (a b : List Deed) (i : Int) : cover (a ++ b) i = cover a i + cover b i := by
  induction a with
  | nil => show cover b i = 0 + cover b i; omega
  | cons d r ih =>
    show _ + cover (r ++ b) i = (_ + cover r i) + cover b i
    rw [ih]; omega
/-- the row behind deeds -/
def behind (m : Int) (ns : List Int) (ds : List Deed) : List Int := ns.mapIdx fun i x => (x + cover ds (i : Int)) % m
theorem behind_length (m : Int) (ns : List Int) (ds : List Deed) : (behind m ns ds).length = ns.length := by
  unfold behind; rw [List.length_mapIdx]
theorem behind_get (m : Int) (ns : List Int) (ds : List Deed) (i : Nat) : (behind m ns ds)[i]? = ns[i]?.map fun x => (x + cover ds (i : Int)) % m := by
  unfold behind; rw [List.getElem?_mapIdx]
/-- a row of the size -/
def RowOk (m : Int) (ns : List Int) : Prop := ∀ x ∈ ns, 0 ≤ x ∧ x < m
def DeedOk (n : Int) (d : Deed) : Prop := 0 ≤ d.1 ∧ d.1 < d.2.1 ∧ d.2.1 ≤ n ∧ d.2.2 ≠ 0
def DeedsOk (n : Int) (ds : List Deed) : Prop := ∀ d ∈ ds, DeedOk n d
theorem behind_ok {m : Int} (hm : 0 < m) (ns : List Int) (ds : List Deed) : RowOk m (behind m ns ds) := by
  intro x hx
  obtain ⟨i, hi⟩ := List.mem_iff_getElem?.mp hx
  rw [behind_get] at hi
  cases e : ns[i]? with
  | none => rw [e] at hi; cases hi
  | some y =>
    rw [e] at hi
    have e2 : (y + cover ds (i : Int)) % m = x := Option.some.inj hi
    rw [← e2]
    exact ⟨Int.emod_nonneg _ (by omega), Int.emod_lt_of_pos _ hm⟩
theorem behind_nil {m : Int} {ns : List Int} (h : RowOk m ns) : behind m ns [] = ns := by
  refine List.ext_getElem? fun i => ?_
  rw [behind_get]
  cases e : ns[i]? with
  | none => rfl
  | some y =>
    have := h y (List.mem_of_getElem? e)
    show some ((y + 0) % m) = some y
    rw [Int.add_zero, Int.emod_eq_of_lt this.1 this.2]
theorem behind_behind (m : Int) (ns : List Int) (a b : List Deed) : behind m (behind m ns a) b = behind m ns (a ++ b) := by
  refine List.ext_getElem? fun i => ?_
  rw [behind_get, behind_get, behind_get]
  cases ns[i]? with
  | none => rfl
  | some y =>
    show some (((y + cover a i) % m + cover b i) % m) = some ((y + cover (a ++ b) i) % m)
    rw [cover_append, Int.emod_add_emod, Int.add_assoc]
theorem behind_congr (m : Int) (ns : List Int) {a b : List Deed} (h : ∀ i : Nat, i < ns.length → cover a i % m = cover b i % m) : behind m ns a = behind m ns b := by
  refine List.ext_getElem? fun i => ?_
  rw [behind_get, behind_get]
  cases e : ns[i]? with
  | none => rfl
  | some y =>
    have hi := (List.getElem?_eq_some_iff.mp e).1
    show some ((y + cover a i) % m) = some ((y + cover b i) % m)
    rw [← Int.add_emod_emod, h i hi, Int.add_emod_emod]
theorem cover_comm (a b : List Deed) (i : Int) : cover (a ++ b) i = cover (b ++ a) i := by
  rw [cover_append, cover_append]; omega
theorem behind_comm (m : Int) (ns : List Int) (a b : List Deed) : behind m ns (a ++ b) = behind m ns (b ++ a) :=
  behind_congr m ns fun i _ => by rw [cover_comm]
/-- the deeds back again -/
def negs (ds : List Deed) : List Deed := ds.map fun d => (d.1, d.2.1, -d.2.2)
theorem cover_negs (ds : List Deed) (i : Int) : cover (negs ds) i = -cover ds i := by
  induction ds with
  | nil => rfl
  | cons d r ih =>
    show (if d.1 ≤ i ∧ i < d.2.1 then -d.2.2 else 0) + cover (negs r) i = -((if d.1 ≤ i ∧ i < d.2.1 then d.2.2 else 0) + cover r i)
    rw [ih]
    split <;> omega
theorem negs_length (ds : List Deed) : (negs ds).length = ds.length := by unfold negs; rw [List.length_map]
theorem negs_ok {n : Int} {ds : List Deed} (h : DeedsOk n ds) : DeedsOk n (negs ds) := by
  intro d hd
  obtain ⟨c, hc, e⟩ := List.mem_map.mp hd
  subst e
  obtain ⟨h1, h2, h3, h4⟩ := h c hc
  exact ⟨h1, h2, h3, by show -c.2.2 ≠ 0; omega⟩
theorem behind_back {m : Int} {ns : List Int} (h : RowOk m ns) (ds : List Deed) : behind m (behind m ns ds) (negs ds) = ns := by
  rw [behind_behind, behind_congr m ns (b := []) fun i _ => by rw [cover_append, cover_negs, Int.add_right_neg]; rfl]
  exact behind_nil h
/-! ### the marks at the ends of stretches -/
def bump (c : List Int) (k : Nat) (s : Int) : List Int := c.set k (c.getD k 0 + s)
theorem bump_length (c : List Int) (k : Nat) (s : Int) : (bump c k s).length = c.length := by unfold bump; rw [List.length_set]
theorem bump_take : ∀ (c : List Int) (k : Nat) (s : Int) (m : Nat), k < c.length → ((bump c k s).take m).sum = (c.take m).sum + if k < m then s else 0
  | [], k, s, m, h => by simp at h
  | x :: r, k, s, 0, h => by simp
  | x :: r, 0, s, m + 1, h => by
    show ((x + s) :: r.take m).sum = (x :: r.take m).sum + if 0 < m + 1 then s else 0
    rw [List.sum_cons, List.sum_cons, if_pos (by omega)]; omega
  | x :: r, k + 1, s, m + 1, h => by
    have ih := bump_take r k s m (by simpa using h)
    show (x :: (bump r k s).take m).sum = (x :: r.take m).sum + if k + 1 < m + 1 then s else 0
    rw [List.sum_cons, List.sum_cons, ih]
    by_cases q : k < m
    · rw [if_pos q, if_pos (by omega)]; omega
    · rw [if_neg q, if_neg (by omega)]; omega
def mark1 (c : List Int) (d : Deed) : List Int := bump (bump c d.1.toNat d.2.2) d.2.1.toNat (-d.2.2)
theorem mark1_length (c : List Int) (d : Deed) : (mark1 c d).length = c.length := by unfold mark1; rw [bump_length, bump_length]
def marks (n : Nat) (ds : List Deed) : List Int := ds.foldl mark1 (List.replicate (n + 1) 0)
theorem foldl_mark_length : ∀ (ds : List Deed) (c : List Int), (ds.foldl mark1 c).length = c.length
  | [], c => rfl
  | d :: r, c => by
    show (r.foldl mark1 (mark1 c d)).length = c.length
    rw [foldl_mark_length r, mark1_length]
theorem marks_length (n : Nat) (ds : List Deed) : (marks n ds).length = n + 1 := by
  unfold marks; rw [foldl_mark_length, List.length_replicate]
theorem mark1_take {c : List Int} {d : Deed} {n : Int} (hc : (c.length : Int) = n + 1) (hd : DeedOk n d) (i : Nat) :
    ((mark1 c d).take (i + 1)).sum = (c.take (i + 1)).sum + if d.1 ≤ (i : Int) ∧ (i : Int) < d.2.1 then d.2.2 else 0 := by
  obtain ⟨h1, h2, h3, h4⟩ := hd
  unfold mark1
  rw [bump_take _ _ _ _ (by rw [bump_length]; omega), bump_take _ _ _ _ (by omega)]
  by_cases p : d.1 ≤ (i : Int)
  · rw [if_pos (show d.1.toNat < i + 1 by omega)]
    by_cases q : (i : Int) < d.2.1
    · rw [if_neg (show ¬ d.2.1.toNat < i + 1 by omega), if_pos ⟨p, q⟩]; omega
    · rw [if_pos (show d.2.1.toNat < i + 1 by omega), if_neg (fun z => q z.2)]; omega
  · rw [if_neg (show ¬ d.1.toNat < i + 1 by omega), if_neg (show ¬ d.2.1.toNat < i + 1 by omega), if_neg (fun z => p z.1)]; omega
theorem sum_zeros : ∀ (n m : Nat), ((List.replicate n (0 : Int)).take m).sum = 0
  | 0, m => by simp
  | n + 1, 0 => by simp
  | n + 1, m + 1 => by
    show ((0 : Int) :: (List.replicate n (0 : Int)).take m).sum = 0
    rw [List.sum_cons, sum_zeros n m]; rfl
theorem foldl_mark_take : ∀ (ds : List Deed) (c : List Int) (n : Int), (c.length : Int) = n + 1 → DeedsOk n ds → ∀ i : Nat, ((ds.foldl mark1 c).take (i + 1)).sum = (c.take (i + 1)).sum + cover ds i
  | [], c, n, hc, hd, i => by show _ = _ + (0 : Int); rw [Int.add_zero]; rfl
  | d :: r, c, n, hc, hd, i => by
    have ih := foldl_mark_take r (mark1 c d) n (by rw [mark1_length]; exact hc) (fun x hx => hd x (List.mem_cons_of_mem _ hx)) i
    show ((r.foldl mark1 (mark1 c d)).take (i + 1)).sum = _ + (_ + cover r i)
    rw [ih, mark1_take hc (hd d List.mem_cons_self)]; omega
theorem marks_take {n : Nat} {ds : List Deed} (h : DeedsOk n ds) (i : Nat) : ((marks n ds).take (i + 1)).sum = cover ds i := by
  unfold marks
  rw [foldl_mark_take ds _ (n : Int) (by rw [List.length_replicate]; omega) h i, sum_zeros]; omega
theorem marks_snoc (n : Nat) (ds : List Deed) (d : Deed) : marks n (ds ++ [d]) = mark1 (marks n ds) d := by
  unfold marks; rw [List.foldl_append]; rfl
theorem take_snoc {α : Type} {l : List α} {i : Nat} {x : α} (h : l[i]? = some x) : l.take (i + 1) = l.take i ++ [x] := by
  rw [List.take_add_one, h]; rfl
/-! ### deed by deed, dial by dial -/
theorem cover_snoc (ds : List Deed) (d : Deed) (i : Int) : cover (ds ++ [d]) i = cover ds i + if d.1 ≤ i ∧ i < d.2.1 then d.2.2 else 0 := by
  rw [cover_append]
  show _ + (_ + 0) = _
  omega
theorem behind_empty (m : Int) (ns : List Int) (ds : List Deed) (f s : Int) : behind m ns (ds ++ [(f, f, s)]) = behind m ns ds := by
  refine behind_congr m ns fun i _ => ?_
  rw [cover_snoc, if_neg (by show ¬ (f ≤ (i : Int) ∧ (i : Int) < f); omega), Int.add_zero]
theorem behind_step {m : Int} {ns : List Int} {ds : List Deed} {f s y : Int} {k : Nat} (hf : 0 ≤ f) (hy : (behind m ns (ds ++ [(f, f + k, s)]))[(f + k).toNat]? = some y) :
    (behind m ns (ds ++ [(f, f + k, s)])).set (f + k).toNat ((y + s) % m) = behind m ns (ds ++ [(f, f + (k + 1 : Nat), s)]) := by
  refine List.ext_getElem? fun i => ?_
  rw [behind_get] at hy
  rw [List.getElem?_set, behind_length, behind_get, behind_get]
  by_cases e : (f + k).toNat = i
  · subst e
    rw [if_pos rfl]
    cases q : ns[(f + k).toNat]? with
    | none => rw [q] at hy; cases hy
    | some x =>
      rw [q] at hy
      have hl := (List.getElem?_eq_some_iff.mp q).1
      rw [if_pos hl]
      have hy' : (x + cover (ds ++ [(f, f + k, s)]) ((f + k).toNat : Int)) % m = y := Option.some.inj hy
      rw [← hy', cover_snoc, cover_snoc] 
      show some _ = some _
      rw [if_neg (by show ¬ (f ≤ (((f + k).toNat : Nat) : Int) ∧ (((f + k).toNat : Nat) : Int) < f + k); omega), if_pos (by show (f ≤ (((f + k).toNat : Nat) : Int) ∧ (((f + k).toNat : Nat) : Int) < f + (k + 1 : Nat)); omega), Int.add_zero, Int.emod_add_emod, Int.add_assoc]
  · rw [if_neg e]
    cases q : ns[i]? with
    | none => rfl
    | some x =>
      show some _ = some _
      rw [cover_snoc, cover_snoc]
      have : (f ≤ (i : Int) ∧ (i : Int) < f + k) ↔ (f ≤ (i : Int) ∧ (i : Int) < f + (k + 1 : Nat)) := by omega
      show some ((x + (cover ds i + if (f ≤ (i : Int) ∧ (i : Int) < f + k) then s else 0)) % m) = some ((x + (cover ds i + if (f ≤ (i : Int) ∧ (i : Int) < f + (k + 1 : Nat)) then s else 0)) % m)
      by_cases c : (f ≤ (i : Int) ∧ (i : Int) < f + k)
      · rw [if_pos c, if_pos (this.mp c)]
      · rw [if_neg c, if_neg (fun z => c (this.mpr z))]
end DR
/-! Dialrow: the fewest steps. -/
namespace DR
/-! ### sums -/
theorem sumI_append : ∀ a b : List Int, (a ++ b).sum = a.sum + b.sum
  | [], b => by simp
  | x :: a, b => by
    rw [List.cons_append, List.sum_cons, List.sum_cons, sumI_append a b]; omega
theorem sumI_reverse : ∀ a : List Int, a.reverse.sum = a.sum
  | [] => rfl
  | x :: a => by
    rw [List.reverse_cons, sumI_append, sumI_reverse a, List.sum_cons]
    simp; omega
theorem sumI_neg : ∀ a : List Int, (a.map fun x => -x).sum = -a.sum
  | [] => rfl
  | x :: a => by
    rw [List.map_cons, List.sum_cons, List.sum_cons, sumI_neg a]; omega
/-! ### what a vector of turns costs -/
def pos (x : Int) : Int := if 0 ≤ x then x else 0
def cost (d : List Int) : Int := (d.map pos).sum
theorem pos_nonneg (x : Int) : 0 ≤ pos x := by unfold pos; split <;> omega
theorem le_pos (x : Int) : x ≤ pos x := by unfold pos; split <;> omega
theorem pos_add (x y : Int) : pos (x + y) ≤ pos x + pos y := by unfold pos; split <;> split <;> split <;> omega
theorem pos_neg (x : Int) : pos (-x) = pos x - x := by unfold pos; split <;> split <;> omega
theorem cost_cons (x : Int) (d : List Int) : cost (x :: d) = pos x + cost d := by unfold cost; rw [List.map_cons, List.sum_cons]
theorem cost_nonneg : ∀ d : List Int, 0 ≤ cost d
  | [] => Int.le_refl _
  | x :: d => by rw [cost_cons]; have := pos_nonneg x; have := cost_nonneg d; omega
theorem cost_append (a b : List Int) : cost (a ++ b) = cost a + cost b := by unfold cost; rw [List.map_append, sumI_append]
theorem cost_reverse (a : List Int) : cost a.reverse = cost a := by unfold cost; rw [List.map_reverse, sumI_reverse]
theorem cost_neg : ∀ d : List Int, cost (d.map fun x => -x) = cost d - d.sum
  | [] => rfl
  | x :: d => by
    rw [List.map_cons, cost_cons, cost_cons, cost_neg d, pos_neg, List.sum_cons]; omega
theorem cost_zero : ∀ {d : List Int}, cost d = 0 → d.sum = 0 → ∀ x ∈ d, x = 0
  | d, hc, hs => by
    have h1 : ∀ (l : List Int), (∀ x ∈ l, x ≤ 0) → l.sum = 0 → ∀ x ∈ l, x = 0 := by
      intro l
      induction l with
      | nil => intro _ _ x hx; cases hx
      | cons y r ih =>
        intro h e x hx
        have hy := h y List.mem_cons_self
        have hr : ∀ (t : List Int), (∀ x ∈ t, x ≤ 0) → t.sum ≤ 0 := by
          intro t
          induction t with
          | nil => intro _; simp
          | cons z t ih2 =>
            intro h2
            rw [List.sum_cons]
            have := h2 z List.mem_cons_self
            have := ih2 fun x hx => h2 x (List.mem_cons_of_mem _ hx)
            omega
        have h3 := hr r fun x hx => h x (List.mem_cons_of_mem _ hx)
        rw [List.sum_cons] at e
        rcases List.mem_cons.mp hx with q | q
        · omega
        · exact ih (fun x hx => h x (List.mem_cons_of_mem _ hx)) (by omega) x q
    have h2 : ∀ (l : List Int), cost l = 0 → ∀ x ∈ l, x ≤ 0 := by
      intro l
      induction l with
      | nil => intro _ x hx; cases hx
      | cons y r ih =>
        intro e x hx
        rw [cost_cons] at e
        have a := pos_nonneg y
        have b := cost_nonneg r
        rcases List.mem_cons.mp hx with q | q
        · have := le_pos y; omega
        · exact ih (by omega) x q
    exact h1 d (h2 d hc) hs
/-- by a mark, the least of all vectors of those remainders, times the size -/
def least (m k x : Int) : Int := min ((m - k) * x) (k * (m - x))
def bound (m k : Int) (g : List Int) : Int := (g.map (least m k)).sum
theorem bound_cons (m k x : Int) (g : List Int) : bound m k (x :: g) = least m k x + bound m k g := by unfold bound; rw [List.map_cons, List.sum_cons]
theorem least_le {m k : Int} (hm : 0 < m) (h0 : 0 ≤ k) (h1 : k ≤ m) (x : Int) : least m k (x % m) ≤ (m - k) * pos x + k * (pos x - x) := by
  have r0 := Int.emod_nonneg x (show m ≠ 0 by omega)
  have r1 := Int.emod_lt_of_pos x hm
  have e := Int.mul_ediv_add_emod x m
  unfold least pos
  by_cases hx : 0 ≤ x
  · rw [if_pos hx]
    have hq : 0 ≤ x / m := Int.ediv_nonneg hx (by omega)
    have hle : x % m ≤ x := by
      have : 0 ≤ m * (x / m) := Int.mul_nonneg (by omega) hq
      omega
    have h2 : (m - k) * (x % m) ≤ (m - k) * x := Int.mul_le_mul_of_nonneg_left hle (by omega)
    have h3 : k * (x - x) = 0 := by rw [Int.sub_self, Int.mul_zero]
    have := Int.min_le_left ((m - k) * (x % m)) (k * (m - x % m))
    omega
  · rw [if_neg hx]
    have hq : x / m ≤ -1 := by
      have : x / m < 0 := Int.ediv_neg_of_neg_of_pos (by omega) hm
      omega
    have hle : m - x % m ≤ 0 - x := by
      have : m * (x / m) ≤ m * (-1) := Int.mul_le_mul_of_nonneg_left hq (by omega)
      omega
    have h2 : k * (m - x % m) ≤ k * (0 - x) := Int.mul_le_mul_of_nonneg_left hle h0
    have h3 : (m - k) * 0 = 0 := Int.mul_zero _
    have := Int.min_le_right ((m - k) * (x % m)) (k * (m - x % m))
    omega
theorem bound_le {m k : Int} (hm : 0 < m) (h0 : 0 ≤ k) (h1 : k ≤ m) : ∀ d : List Int, bound m k (d.map (· % m)) ≤ (m - k) * cost d + k * (cost d - d.sum)
  | [] => by
    show (0 : Int) ≤ (m - k) * 0 + k * (0 - 0)
    rw [Int.mul_zero, Int.sub_zero, Int.mul_zero]; decide
  | x :: d => by
    have ih := bound_le hm h0 h1 d
    have a := least_le hm h0 h1 x
    rw [List.map_cons, bound_cons, cost_cons, List.sum_cons]
    have e1 : (m - k) * (pos x + cost d) = (m - k) * pos x + (m - k) * cost d := Int.mul_add _ _ _
    have e2 : k * (pos x + cost d - (x + d.sum)) = k * (pos x - x) + k * (cost d - d.sum) := by rw [← Int.mul_add]; congr 1; omega
    omega
/-- d is turned as r is, but for whole turns, and comes back to nought -/
def Sol (m : Int) (r d : List Int) : Prop := d.map (· % m) = r.map (· % m) ∧ d.sum = 0
/-- v is the fewest steps for the turns r -/
def Fewest (m : Int) (r : List Int) (v : Int) : Prop := (∃ d, Sol m r d ∧ cost d = v) ∧ ∀ d, Sol m r d → v ≤ cost d
theorem Fewest.uniq {m : Int} {r : List Int} {v w : Int} (a : Fewest m r v) (b : Fewest m r w) : v = w := by
  obtain ⟨⟨d, h1, h2⟩, h3⟩ := a
  obtain ⟨⟨e, k1, k2⟩, k3⟩ := b
  have := h3 e k1
  have := k3 d h1
  omega
/-- as few as a mark shows -/
theorem fewest_of {m k v : Int} {r d : List Int} (hm : 0 < m) (h0 : 0 ≤ k) (h1 : k ≤ m) (hd : Sol m r d) (hc : cost d ≤ v) (hb : m * v = bound m k (r.map (· % m))) : Fewest m r v ∧ cost d = v := by
  have low : ∀ e, Sol m r e → v ≤ cost e := by
    intro e he
    have a := bound_le hm h0 h1 e
    rw [he.1, he.2, ← hb] at a
    have e1 : (m - k) * cost e + k * (cost e - 0) = m * cost e := by rw [Int.sub_zero, ← Int.add_mul]; congr 1; omega
    rw [e1] at a
    exact Int.le_of_mul_le_mul_left a hm
  have ev : cost d = v := Int.le_antisymm hc (low d hd)
  exact ⟨⟨⟨d, hd, ev⟩, low⟩, ev⟩
theorem Fewest.nonneg {m : Int} {r : List Int} {v : Int} (a : Fewest m r v) : 0 ≤ v := by
  obtain ⟨⟨d, h1, h2⟩, h3⟩ := a
  rw [← h2]; exact cost_nonneg d
/-! ### remainders place by place -/
theorem mod_map_len {m : Int} {a b : List Int} (h : a.map (· % m) = b.map (· % m)) : a.length = b.length := by
  have := congrArg List.length h
  rw [List.length_map, List.length_map] at this
  exact this
theorem neg_mod {m x y : Int} (h : x % m = y % m) : (-x) % m = (-y) % m := by
  rw [Int.emod_eq_emod_iff_emod_sub_eq_zero] at h ⊢
  rw [show -x - -y = -(x - y) by omega]
  exact Int.emod_eq_zero_of_dvd (Int.dvd_neg.mpr (Int.dvd_of_emod_eq_zero h))
theorem add_mod {m x y z w : Int} (h : x % m = y % m) (k : z % m = w % m) : (x + z) % m = (y + w) % m := by
  rw [Int.add_emod, h, k, ← Int.add_emod]
theorem map_neg_mod {m : Int} : ∀ {a b : List Int}, a.map (· % m) = b.map (· % m) → (a.map fun x => -x).map (· % m) = (b.map fun x => -x).map (· % m)
  | [], [], _ => rfl
  | [], _ :: _, h => by simp at h
  | _ :: _, [], h => by simp at h
  | x :: a, y :: b, h => by
    simp only [List.map_cons, List.cons.injEq] at h ⊢
    exact ⟨neg_mod h.1, map_neg_mod h.2⟩
def vadd (a b : List Int) : List Int := List.zipWith (· + ·) a b
theorem vadd_mod {m : Int} : ∀ {a b c d : List Int}, a.map (· % m) = b.map (· % m) → c.map (· % m) = d.map (· % m) → (vadd a c).map (· % m) = (vadd b d).map (· % m)
  | [], [], _, _, _, _ => rfl
  | [], _ :: _, _, _, h, _ => by simp at h
  | _ :: _, [], _, _, h, _ => by simp at h
  | _ :: _, _ :: _, [], [], _, _ => rfl
  | _ :: _, _ :: _, [], _ :: _, _, h => by simp at h
  | _ :: _, _ :: _, _ :: _, [], _, h => by simp at h
  | x :: a, y :: b, z :: c, w :: d, h, k => by
    simp only [List.map_cons, List.cons.injEq] at h k
    unfold vadd
    simp only [List.zipWith_cons_cons, List.map_cons, List.cons.injEq]
    exact ⟨add_mod h.1 k.1, vadd_mod h.2 k.2⟩
theorem vadd_sum : ∀ {a c : List Int}, a.length = c.length → (vadd a c).sum = a.sum + c.sum
  | [], [], _ => rfl
  | [], _ :: _, h => by simp at h
  | _ :: _, [], h => by simp at h
  | x :: a, y :: c, h => by
    have ih := vadd_sum (a := a) (c := c) (by simpa using h)
    show ((x + y) :: vadd a c).sum = (x :: a).sum + (y :: c).sum
    rw [List.sum_cons, List.sum_cons, List.sum_cons, ih]; omega
theorem vadd_cost : ∀ {a c : List Int}, a.length = c.length → cost (vadd a c) ≤ cost a + cost c
  | [], [], _ => by decide
  | [], _ :: _, h => by simp at h
  | _ :: _, [], h => by simp at h
  | x :: a, y :: c, h => by
    have ih := vadd_cost (a := a) (c := c) (by simpa using h)
    show cost ((x + y) :: vadd a c) ≤ _
    rw [cost_cons, cost_cons, cost_cons]
    have := pos_add x y
    omega
/-! ### gaps -/
def diffs : List Int → List Int
  | x :: y :: r => (y - x) :: diffs (y :: r)
  | _ => []
def turns (a b : List Int) : List Int := [0] ++ List.zipWith (fun x y => y - x) a b ++ [0]
def raw (a b : List Int) : List Int := diffs (turns a b)
theorem diffs_length : ∀ l : List Int, (diffs l).length = l.length - 1
  | [] => rfl
  | [_] => rfl
  | x :: y :: r => by
    show (diffs (y :: r)).length + 1 = (y :: r).length + 1 - 1
    rw [diffs_length (y :: r)]
    show (r.length + 1 - 1) + 1 = r.length + 1 + 1 - 1
    omega
theorem turns_length {a b : List Int} (h : a.length = b.length) : (turns a b).length = a.length + 2 := by
  unfold turns
  rw [List.length_append, List.length_append, List.length_zipWith, h]
  simp; omega
theorem raw_length {a b : List Int} (h : a.length = b.length) : (raw a b).length = a.length + 1 := by
  unfold raw
  rw [diffs_length, turns_length h]; omega
theorem diffs_neg : ∀ l : List Int, diffs (l.map fun x => -x) = (diffs l).map fun x => -x
  | [] => rfl
  | [_] => rfl
  | x :: y :: r => by
    show (-y - -x) :: diffs ((y :: r).map fun x => -x) = -(y - x) :: (diffs (y :: r)).map fun x => -x
    rw [diffs_neg (y :: r)]; congr 1; omega
theorem diffs_add : ∀ {l t : List Int}, l.length = t.length → diffs (vadd l t) = vadd (diffs l) (diffs t)
  | [], [], _ => rfl
  | [], _ :: _, h => by simp at h
  | _ :: _, [], h => by simp at h
  | [_], [_], _ => rfl
  | [_], _ :: _ :: _, h => by simp at h
  | _ :: _ :: _, [_], h => by simp at h
  | x :: y :: r, u :: v :: w, h => by
    have ih := diffs_add (l := y :: r) (t := v :: w) (by simpa using h)
    show ((y + v) - (x + u)) :: diffs (vadd (y :: r) (v :: w)) = ((y - x) + (v - u)) :: vadd (diffs (y :: r)) (diffs (v :: w))
    rw [ih]; congr 1; omega
theorem diffs_snoc : ∀ (l : List Int) (x y : Int), diffs (l ++ [x, y]) = diffs (l ++ [x]) ++ [y - x]
  | [], x, y => rfl
  | [a], x, y => rfl
  | a :: b :: r, x, y => by
    show (b - a) :: diffs ((b :: r) ++ [x, y]) = (b - a) :: (diffs ((b :: r) ++ [x]) ++ [y - x])
    rw [diffs_snoc (b :: r) x y]
theorem diffs_reverse : ∀ l : List Int, diffs l.reverse = ((diffs l).map fun x => -x).reverse
  | [] => rfl
  | [_] => rfl
  | x :: y :: r => by
    have ih := diffs_reverse (y :: r)
    rw [List.reverse_cons, List.reverse_cons] at *
    rw [List.append_assoc]
    show diffs (r.reverse ++ [y, x]) = ((-(y - x)) :: (diffs (y :: r)).map fun x => -x).reverse
    rw [diffs_snoc, ih, List.reverse_cons]
    congr 2; omega
theorem diffs_mod {m : Int} : ∀ {l t : List Int}, l.map (· % m) = t.map (· % m) → (diffs l).map (· % m) = (diffs t).map (· % m)
  | [], [], _ => rfl
  | [], _ :: _, h => by simp at h
  | _ :: _, [], h => by simp at h
  | [_], [_], _ => rfl
  | [_], _ :: _ :: _, h => by simp at h
  | _ :: _ :: _, [_], h => by simp at h
  | x :: y :: r, u :: v :: w, h => by
    have h' : (y :: r).map (· % m) = (v :: w).map (· % m) := by
      simp only [List.map_cons, List.cons.injEq] at h ⊢
      exact h.2
    have ih := diffs_mod h'
    simp only [List.map_cons, List.cons.injEq] at h
    show ((y - x) % m) :: (diffs (y :: r)).map (· % m) = ((v - u) % m) :: (diffs (v :: w)).map (· % m)
    rw [ih]; congr 1
    rw [Int.sub_eq_add_neg, Int.sub_eq_add_neg]
    exact add_mod h.2.1 (neg_mod h.1)
theorem diffs_sum : ∀ (x : Int) (l : List Int) (z : Int), (diffs (x :: l ++ [z])).sum = z - x
  | x, [], z => by show ([z - x] : List Int).sum = z - x; simp
  | x, y :: l, z => by
    show ((y - x) :: diffs (y :: l ++ [z])).sum = z - x
    rw [List.sum_cons, diffs_sum y l z]; omega
theorem raw_sum (a b : List Int) : (raw a b).sum = 0 := by
  unfold raw turns
  rw [List.singleton_append, diffs_sum]; rfl
theorem turns_self (a : List Int) : turns a a = List.replicate (a.length + 2) 0 := by
  unfold turns
  have : List.zipWith (fun x y : Int => y - x) a a = List.replicate a.length 0 := by
    induction a with
    | nil => rfl
    | cons x r ih => rw [List.zipWith_cons_cons, ih, Int.sub_self, List.length_cons, List.replicate_succ]
  rw [this, List.singleton_append, ← List.replicate_succ]
  show _ ++ List.replicate 1 (0 : Int) = _
  rw [List.replicate_append_replicate]
theorem diffs_zeros : ∀ n : Nat, diffs (List.replicate (n + 1) 0) = List.replicate n 0
  | 0 => rfl
  | n + 1 => by
    show ((0 : Int) - 0) :: diffs (List.replicate (n + 1) 0) = _
    rw [diffs_zeros n]; rfl
theorem raw_self (a : List Int) : raw a a = List.replicate (a.length + 1) 0 := by
  unfold raw
  rw [turns_self, diffs_zeros]
theorem cost_zeros : ∀ n : Nat, cost (List.replicate n 0) = 0
  | 0 => rfl
  | n + 1 => by rw [List.replicate_succ, cost_cons, cost_zeros n]; rfl
theorem turns_swap (a b : List Int) : turns b a = (turns a b).map fun x => -x := by
  unfold turns
  have : ∀ a b : List Int, List.zipWith (fun x y : Int => y - x) b a = (List.zipWith (fun x y : Int => y - x) a b).map fun x => -x := by
    intro a
    induction a with
    | nil => intro b; simp
    | cons x r ih =>
      intro b
      cases b with
      | nil => simp
      | cons y t => simp only [List.zipWith_cons_cons, List.map_cons, ih t]; congr 1; omega
  rw [this]; simp
theorem turns_reverse {a b : List Int} (h : a.length = b.length) : turns a.reverse b.reverse = (turns a b).reverse := by
  unfold turns
  rw [← List.reverse_zipWith h]; simp
theorem turns_via {a b c : List Int} (h1 : a.length = b.length) (h2 : b.length = c.length) : turns a c = vadd (turns a b) (turns b c) := by
  have : ∀ a b c : List Int, a.length = b.length → b.length = c.length → List.zipWith (fun x y : Int => y - x) a c = vadd (List.zipWith (fun x y : Int => y - x) a b) (List.zipWith (fun x y : Int => y - x) b c) := by
    intro a
    induction a with
    | nil => intro b c _ _; simp [vadd]
    | cons x r ih =>
      intro b c h1 h2
      cases b with
      | nil => simp at h1
      | cons y s =>
        cases c with
        | nil => simp at h2
        | cons z t =>
          show (z - x) :: List.zipWith _ r t = ((y - x) + (z - y)) :: vadd (List.zipWith _ r s) (List.zipWith _ s t)
          rw [ih s t (by simpa using h1) (by simpa using h2)]; congr 1; omega
  unfold turns
  rw [this a b c h1 h2]
  unfold vadd
  rw [List.zipWith_append (by simp [List.length_zipWith, h1, h2]), List.zipWith_append (by simp)]
  rfl
theorem turns_shift {m k : Int} : ∀ {a b : List Int}, (turns (a.map fun x => (x + k) % m) (b.map fun x => (x + k) % m)).map (· % m) = (turns a b).map (· % m) := by
  intro a b
  have : ∀ a b : List Int, (List.zipWith (fun x y : Int => y - x) (a.map fun x => (x + k) % m) (b.map fun x => (x + k) % m)).map (· % m) = (List.zipWith (fun x y : Int => y - x) a b).map (· % m) := by
    intro a
    induction a with
    | nil => intro b; simp
    | cons x r ih =>
      intro b
      cases b with
      | nil => simp
      | cons y t =>
        simp only [List.map_cons, List.zipWith_cons_cons]
        rw [ih t]
        congr 1
        rw [← Int.sub_emod, show y + k - (x + k) = y - x by omega]
  unfold turns
  rw [List.map_append, List.map_append, this, List.map_append, List.map_append]
/-! ### what holds of the fewest steps -/
section
variable {m : Int} {a b c : List Int} {v w u : Int}
theorem few_self (a : List Int) : Fewest m (raw a a) 0 := by
  refine ⟨⟨raw a a, ⟨rfl, raw_sum a a⟩, ?_⟩, fun d _ => cost_nonneg d⟩
  rw [raw_self, cost_zeros]
theorem few_swap (h : Fewest m (raw a b) v) : Fewest m (raw b a) v := by
  have sw : ∀ (a b d : List Int), Sol m (raw a b) d → Sol m (raw b a) (d.map fun x => -x) ∧ cost (d.map fun x => -x) = cost d := by
    intro a b d hd
    refine ⟨⟨?_, by rw [sumI_neg, hd.2]; rfl⟩, by rw [cost_neg, hd.2]; omega⟩
    unfold raw
    rw [turns_swap a b, diffs_neg]
    exact map_neg_mod hd.1
  obtain ⟨⟨d, h1, h2⟩, h3⟩ := h
  refine ⟨⟨_, (sw a b d h1).1, by rw [(sw a b d h1).2, h2]⟩, fun e he => ?_⟩
  have := h3 _ (sw b a e he).1
  rw [(sw b a e he).2] at this
  exact this
theorem few_reverse (hl : a.length = b.length) (h : Fewest m (raw a b) v) : Fewest m (raw a.reverse b.reverse) v := by
  have sw : ∀ (a b d : List Int), a.length = b.length → Sol m (raw a b) d → Sol m (raw a.reverse b.reverse) (d.map fun x => -x).reverse ∧ cost (d.map fun x => -x).reverse = cost d := by
    intro a b d hl hd
    refine ⟨⟨?_, by rw [sumI_reverse, sumI_neg, hd.2]; rfl⟩, by rw [cost_reverse, cost_neg, hd.2]; omega⟩
    unfold raw
    rw [turns_reverse hl, diffs_reverse, List.map_reverse, List.map_reverse]
    exact congrArg List.reverse (map_neg_mod hd.1)
  obtain ⟨⟨d, h1, h2⟩, h3⟩ := h
  refine ⟨⟨_, (sw a b d hl h1).1, by rw [(sw a b d hl h1).2, h2]⟩, fun e he => ?_⟩
  have q := sw a.reverse b.reverse e (by simp [hl]) he
  rw [List.reverse_reverse, List.reverse_reverse] at q
  have := h3 _ q.1
  rw [q.2] at this
  exact this
theorem few_mod {r s : List Int} (e : r.map (· % m) = s.map (· % m)) (h : Fewest m r v) : Fewest m s v := by
  obtain ⟨⟨d, h1, h2⟩, h3⟩ := h
  exact ⟨⟨d, ⟨h1.1.trans e, h1.2⟩, h2⟩, fun x hx => h3 x ⟨hx.1.trans e.symm, hx.2⟩⟩
theorem few_shift {k : Int} (h : Fewest m (raw a b) v) : Fewest m (raw (a.map fun x => (x + k) % m) (b.map fun x => (x + k) % m)) v :=
  few_mod (diffs_mod turns_shift).symm h
theorem few_tri (h1 : a.length = b.length) (h2 : b.length = c.length) (hab : Fewest m (raw a b) v) (hbc : Fewest m (raw b c) w) (hac : Fewest m (raw a c) u) : u ≤ v + w := by
  obtain ⟨⟨d, k1, k2⟩, _⟩ := hab
  obtain ⟨⟨e, l1, l2⟩, _⟩ := hbc
  have hd := mod_map_len k1.1
  have he := mod_map_len l1.1
  rw [raw_length h1] at hd
  rw [raw_length h2] at he
  have hl : d.length = e.length := by omega
  have q := hac.2 (vadd d e) ⟨?_, by rw [vadd_sum hl, k1.2, l1.2]; rfl⟩
  · have := vadd_cost hl
    omega
  · unfold raw
    rw [turns_via h1 h2, diffs_add (by rw [turns_length h1, turns_length h2, h1])]
    exact vadd_mod k1.1 l1.1
theorem few_tail {x y : Int} (hab : Fewest m (raw (x :: a) (y :: b)) v) (ht : Fewest m (raw a b) w) : w ≤ v := by
  obtain ⟨⟨d, k1, k2⟩, _⟩ := hab
  -- the first two gaps are put together
  obtain ⟨p, q, r, e⟩ : ∃ p q r, turns a b = 0 :: p :: r ∧ turns (x :: a) (y :: b) = 0 :: (y - x) :: p :: r ∧ q = (0 : Int) := by
    unfold turns
    cases a with
    | nil => exact ⟨0, 0, [], rfl, rfl, rfl⟩
    | cons x2 a2 =>
      cases b with
      | nil => exact ⟨0, 0, [], rfl, rfl, rfl⟩
      | cons y2 b2 => exact ⟨y2 - x2, 0, _, rfl, rfl, rfl⟩
  obtain ⟨e1, e2, _⟩ := e
  have f1 : raw (x :: a) (y :: b) = (y - x - 0) :: (p - (y - x)) :: diffs (p :: r) := by unfold raw; rw [e2]; rfl
  have f2 : raw a b = (p - 0) :: diffs (p :: r) := by unfold raw; rw [e1]; rfl
  rw [f1] at k1
  rw [f2] at ht
  obtain ⟨g1, g2⟩ := k1
  match d, g1, g2, k2 with
  | [], g1, _, _ => simp at g1
  | [_], g1, _, _ => simp at g1
  | d0 :: d1 :: dr, g1, g2, k2 =>
    simp only [List.map_cons, List.cons.injEq] at g1
    have q := ht.2 ((d0 + d1) :: dr) ⟨?_, ?_⟩
    · rw [cost_cons] at q
      rw [cost_cons, cost_cons] at k2
      have := pos_add d0 d1
      omega
    · simp only [List.map_cons, List.cons.injEq]
      refine ⟨?_, g1.2.2⟩
      rw [add_mod g1.1 g1.2.1]; congr 1; omega
    · rw [List.sum_cons] at g2 ⊢
      rw [List.sum_cons] at g2
      omega
theorem few_zero (hm : 0 < m) (ha : RowOk m a) (hb : RowOk m b) (hl : a.length = b.length) (h : Fewest m (raw a b) 0) : a = b := by
  obtain ⟨⟨d, h1, h2⟩, h3⟩ := h
  clear h3
  have z := cost_zero h2 h1.2
  have z2 : ∀ x ∈ raw a b, x % m = 0 := by
    intro x hx
    have : x % m ∈ d.map (· % m) := by rw [h1.1]; exact List.mem_map_of_mem hx
    obtain ⟨y, hy, e⟩ := List.mem_map.mp this
    rw [← e, z y hy, Int.zero_emod]
  have key : ∀ (l : List Int) (x : Int), (∀ y ∈ diffs (x :: l), y % m = 0) → ∀ y ∈ l, y % m = x % m := by
    intro l
    induction l with
    | nil => intro x _ y hy; cases hy
    | cons u r ih =>
      intro x hx y hy
      have h0 : (u - x) % m = 0 := hx (u - x) List.mem_cons_self
      have h1 : u % m = x % m := Int.emod_eq_emod_iff_emod_sub_eq_zero.mpr h0
      rcases List.mem_cons.mp hy with e | e
      · rw [e, h1]
      · rw [← h1]
        exact ih u (fun y hy => hx y (List.mem_cons_of_mem _ hy)) y e
  have z3 : ∀ y ∈ List.zipWith (fun x y : Int => y - x) a b, y % m = 0 := by
    intro y hy
    have e : turns a b = 0 :: (List.zipWith (fun x y : Int => y - x) a b ++ [0]) := rfl
    unfold raw at z2
    rw [e] at z2
    have := key (List.zipWith (fun x y : Int => y - x) a b ++ [0]) 0 z2 y (List.mem_append_left _ hy)
    rw [this, Int.zero_emod]
  clear z2 z h1 h2 key
  induction a generalizing b with
  | nil => cases b with
    | nil => rfl
    | cons _ _ => simp at hl
  | cons x r ih =>
    cases b with
    | nil => simp at hl
    | cons y t =>
      have e : (y - x) % m = 0 := z3 _ (by rw [List.zipWith_cons_cons]; exact List.mem_cons_self)
      have hx := ha x List.mem_cons_self
      have hy := hb y List.mem_cons_self
      have e2 : y % m = x % m := Int.emod_eq_emod_iff_emod_sub_eq_zero.mpr e
      rw [Int.emod_eq_of_lt hx.1 hx.2, Int.emod_eq_of_lt hy.1 hy.2] at e2
      rw [e2, ih (fun z hz => ha z (List.mem_cons_of_mem _ hz)) (fun z hz => hb z (List.mem_cons_of_mem _ hz)) (by simpa using hl) fun z hz => z3 z (by rw [List.zipWith_cons_cons]; exact List.mem_cons_of_mem _ hz)]
end
end DR
namespace DR
/-! ### all dials to one figure -/
def lastOf : Int → List Int → Int
  | x, [] => x
  | _, y :: r => lastOf y r
def mid (x : Int) (r : List Int) : List Int := diffs ((x :: r).map fun x => -x)
theorem diffs_to (c : Int) : ∀ (r : List Int) (x : Int), diffs (((x :: r).map fun y => c - y) ++ [0]) = mid x r ++ [lastOf x r - c]
  | [], x => by
    show [0 - (c - x)] = [x - c]
    congr 1; omega
  | y :: r, x => by
    show ((c - y) - (c - x)) :: diffs (((y :: r).map fun y => c - y) ++ [0]) = ((-y - -x) :: mid y r) ++ [lastOf y r - c]
    rw [diffs_to c r y, List.cons_append]; congr 1; omega
theorem zip_rep (c : Int) : ∀ a : List Int, List.zipWith (fun x y : Int => y - x) a (List.replicate a.length c) = a.map fun y => c - y
  | [] => rfl
  | x :: r => by
    rw [List.length_cons, List.replicate_succ, List.zipWith_cons_cons, zip_rep c r]; rfl
theorem raw_to (c x : Int) (r : List Int) : raw (x :: r) (List.replicate (x :: r).length c) = (c - x) :: (mid x r ++ [lastOf x r - c]) := by
  unfold raw turns
  rw [zip_rep]
  show (c - x - 0) :: diffs (((x :: r).map fun y => c - y) ++ [0]) = _
  rw [diffs_to, Int.sub_zero]
theorem map_snoc {m : Int} {e t : List Int} {z : Int} (h : e.map (· % m) = (t ++ [z]).map (· % m)) : ∃ e1 el, e = e1 ++ [el] ∧ e1.map (· % m) = t.map (· % m) ∧ el % m = z % m := by
  have hl := mod_map_len h
  rw [List.length_append, List.length_singleton] at hl
  have hne : e ≠ [] := by intro q; rw [q] at hl; simp at hl
  refine ⟨e.dropLast, e.getLast hne, (List.dropLast_concat_getLast hne).symm, ?_⟩
  rw [← List.dropLast_concat_getLast hne, List.map_append, List.map_append] at h
  have := List.append_inj' h (by simp)
  exact ⟨this.1, by simpa using this.2⟩
theorem few_level {m x y v w : Int} {r : List Int} (h : Fewest m (raw (x :: r) (List.replicate (x :: r).length x)) v) (k : Fewest m (raw (x :: r) (List.replicate (x :: r).length y)) w) : v ≤ w := by
  rw [raw_to] at h k
  obtain ⟨⟨d, k1, k2⟩, _⟩ := k
  obtain ⟨g1, g2⟩ := k1
  match d, g1, g2, k2 with
  | [], g1, _, _ => simp at g1
  | d0 :: e, g1, g2, k2 =>
    simp only [List.map_cons, List.cons.injEq] at g1
    obtain ⟨e1, el, rfl, f1, f2⟩ := map_snoc g1.2
    have q := h.2 (0 :: (e1 ++ [d0 + el])) ⟨?_, ?_⟩
    · rw [cost_cons, cost_append, cost_cons] at q
      rw [cost_cons, cost_append, cost_cons] at k2
      have := pos_add d0 el
      have z : pos 0 = 0 := rfl
      omega
    · simp only [List.map_cons, List.map_append, List.cons.injEq]
      refine ⟨by rw [Int.sub_self], ?_⟩
      rw [f1]
      congr 1
      show [(d0 + el) % m] = [(lastOf x r - x) % m]
      rw [add_mod g1.1 f2]; congr 2; omega
    · rw [List.sum_cons, sumI_append, List.sum_cons] at g2 ⊢
      simp only [List.sum_nil] at g2 ⊢
      omega
/-- the row turned by a number: as many steps to its first figure -/
theorem few_level_shift {m k v : Int} {a : List Int} {c : Int} (h : Fewest m (raw a (List.replicate a.length c)) v) :
    Fewest m (raw (a.map fun x => (x + k) % m) (List.replicate a.length ((c + k) % m))) v := by
  have := few_shift (k := k) h
  rw [List.map_replicate] at this
  exact this
/-! ### deeds and their turns -/
def ab (x : Int) : Int := if x < 0 then -x else x
def steps (ds : List Deed) : Int := (ds.map fun d => ab d.2.2).sum
theorem steps_cons (d : Deed) (ds : List Deed) : steps (d :: ds) = ab d.2.2 + steps ds := by unfold steps; rw [List.map_cons, List.sum_cons]
def covers (n : Nat) (ds : List Deed) : List Int := (List.range (n + 2)).map fun i : Nat => cover ds ((i : Int) - 1)
theorem covers_length (n : Nat) (ds : List Deed) : (covers n ds).length = n + 2 := by unfold covers; rw [List.length_map, List.length_range]
theorem vadd_map {α : Type} (f g : α → Int) : ∀ l : List α, vadd (l.map f) (l.map g) = l.map fun i => f i + g i
  | [] => rfl
  | x :: r => by
    show (f x + g x) :: vadd (r.map f) (r.map g) = _
    rw [vadd_map f g r]; rfl
theorem covers_cons (n : Nat) (d : Deed) (ds : List Deed) : covers n (d :: ds) = vadd (covers n [d]) (covers n ds) := by
  unfold covers
  rw [vadd_map]
  refine List.map_congr_left fun i _ => ?_
  show (if _ then _ else _) + cover ds _ = ((if _ then _ else _) + 0) + cover ds _
  rw [Int.add_zero]
theorem covers_snoc (n : Nat) (ds : List Deed) : covers (n + 1) ds = covers n ds ++ [cover ds ((n : Int) + 1)] := by
  unfold covers
  rw [List.range_succ, List.map_append]
  show _ ++ [cover ds (((n + 2 : Nat) : Int) - 1)] = _
  congr 3; omega
theorem diffs_snoc2 {l : List Int} {x y : Int} : diffs (l ++ [x] ++ [y]) = diffs (l ++ [x]) ++ [y - x] := by
  rw [List.append_assoc]
  exact diffs_snoc l x y
theorem diffs_covers_snoc (n : Nat) (ds : List Deed) : diffs (covers (n + 1) ds) = diffs (covers n ds) ++ [cover ds ((n : Int) + 1) - cover ds (n : Int)] := by
  rw [covers_snoc]
  have : ∃ l, covers n ds = l ++ [cover ds (n : Int)] := by
    cases n with
    | zero => exact ⟨[cover ds (-1)], rfl⟩
    | succ k => exact ⟨_, by rw [covers_snoc]; congr 3⟩
  obtain ⟨l, e⟩ := this
  rw [e, diffs_snoc2]
theorem covers_sum (ds : List Deed) : ∀ n : Nat, (diffs (covers n ds)).sum = cover ds (n : Int) - cover ds (-1)
  | 0 => by
    show ([cover ds 0 - cover ds (-1)] : List Int).sum = _
    simp
  | n + 1 => by
    rw [diffs_covers_snoc, sumI_append, covers_sum ds n]
    simp only [List.sum_cons, List.sum_nil]
    have : ((n + 1 : Nat) : Int) = (n : Int) + 1 := rfl
    rw [this]; omega
/-- one deed: forth at its dial, back at its end -/
theorem cost_one {d : Deed} (h : d.1 < d.2.1) (h0 : 0 ≤ d.1) : ∀ n : Nat, cost (diffs (covers n [d])) = (if d.1 ≤ (n : Int) then pos d.2.2 else 0) + (if d.2.1 ≤ (n : Int) then pos (-d.2.2) else 0)
  | 0 => by
    show cost [cover [d] 0 - cover [d] (-1)] = _
    have e : cover [d] (-1) = 0 := by
      show (if d.1 ≤ (-1 : Int) ∧ (-1 : Int) < d.2.1 then d.2.2 else 0) + 0 = 0
      rw [if_neg (by omega)]; rfl
    have e2 : cover [d] 0 = if d.1 ≤ (0 : Int) ∧ (0 : Int) < d.2.1 then d.2.2 else 0 := by
      show (if d.1 ≤ (0 : Int) ∧ (0 : Int) < d.2.1 then d.2.2 else 0) + 0 = _
      omega
    rw [e, e2, cost_cons, Int.sub_zero]
    show pos _ + 0 = _
    by_cases c : d.1 ≤ (0 : Int)
    · rw [if_pos ⟨c, by omega⟩, if_pos (show d.1 ≤ ((0 : Nat) : Int) from c), if_neg (show ¬ d.2.1 ≤ ((0 : Nat) : Int) by omega)]
    · rw [if_neg (fun z => c z.1), if_neg (show ¬ d.1 ≤ ((0 : Nat) : Int) from c), if_neg (show ¬ d.2.1 ≤ ((0 : Nat) : Int) by omega)]; rfl
  | n + 1 => by
    rw [diffs_covers_snoc, cost_append, cost_one h h0 n, cost_cons]
    show _ + (pos (((if d.1 ≤ ((n : Int) + 1) ∧ ((n : Int) + 1) < d.2.1 then d.2.2 else 0) + 0) - ((if d.1 ≤ (n : Int) ∧ (n : Int) < d.2.1 then d.2.2 else 0) + 0)) + 0) = _
    have e : ((n + 1 : Nat) : Int) = (n : Int) + 1 := rfl
    rw [e]
    have z : pos 0 = 0 := rfl
    by_cases c1 : d.1 ≤ (n : Int)
    · rw [if_pos c1, if_pos (show d.1 ≤ (n : Int) + 1 by omega)]
      by_cases c2 : d.2.1 ≤ (n : Int)
      · rw [if_pos c2, if_pos (show d.2.1 ≤ (n : Int) + 1 by omega), if_neg (by omega), if_neg (by omega)]
        show _ + (pos 0 + 0) = _
        rw [z]; omega
      · rw [if_neg c2, if_pos (show d.1 ≤ (n : Int) ∧ (n : Int) < d.2.1 by omega)]
        by_cases c3 : d.2.1 ≤ (n : Int) + 1
        · rw [if_pos c3, if_neg (by omega)]
          rw [show (0 + 0 - (d.2.2 + 0) : Int) = -d.2.2 by omega]; omega
        · rw [if_neg c3, if_pos (by omega)]
          rw [show (d.2.2 + 0 - (d.2.2 + 0) : Int) = 0 by omega, z]; omega
    · rw [if_neg c1, if_neg (show ¬ d.2.1 ≤ (n : Int) by omega), if_neg (show ¬ (d.1 ≤ (n : Int) ∧ (n : Int) < d.2.1) by omega)]
      rw [if_neg (show ¬ d.2.1 ≤ (n : Int) + 1 by omega)]
      by_cases c3 : d.1 ≤ (n : Int) + 1
      · rw [if_pos c3, if_pos (by omega)]
        rw [show (d.2.2 + 0 - (0 + 0) : Int) = d.2.2 by omega]; omega
      · rw [if_neg c3, if_neg (by omega)]
        show _ + (pos 0 + 0) = _
        rw [z]; omega
theorem pos_ab (x : Int) : pos x + pos (-x) = ab x := by unfold pos ab; split <;> split <;> split <;> omega
theorem cost_covers {n : Nat} : ∀ {ds : List Deed}, DeedsOk n ds → cost (diffs (covers n ds)) ≤ steps ds
  | [], _ => by
    have e : covers n [] = List.replicate (n + 2) 0 := by
      unfold covers
      refine List.ext_getElem? fun i => ?_
      rw [List.getElem?_map, List.getElem?_replicate]
      by_cases h : i < n + 2
      · rw [if_pos h, List.getElem?_range h]; rfl
      · rw [if_neg h, List.getElem?_eq_none (by rw [List.length_range]; omega)]; rfl
    rw [e, diffs_zeros, cost_zeros]
    exact Int.le_refl _
  | d :: r, h => by
    have ih := cost_covers (ds := r) (fun x hx => h x (List.mem_cons_of_mem _ hx))
    obtain ⟨h1, h2, h3, h4⟩ := h d List.mem_cons_self
    rw [covers_cons, diffs_add (by rw [covers_length, covers_length]), steps_cons]
    have q := vadd_cost (a := diffs (covers n [d])) (c := diffs (covers n r)) (by rw [diffs_length, diffs_length, covers_length, covers_length])
    rw [cost_one h2 h1 n, if_pos (by omega), if_pos (by omega), pos_ab] at q
    omega
theorem cover_out {n : Nat} : ∀ {ds : List Deed}, DeedsOk n ds → cover ds (-1) = 0 ∧ cover ds (n : Int) = 0
  | [], _ => ⟨rfl, rfl⟩
  | d :: r, h => by
    have ih := cover_out (ds := r) (fun x hx => h x (List.mem_cons_of_mem _ hx))
    obtain ⟨h1, h2, h3, h4⟩ := h d List.mem_cons_self
    constructor
    · show (if _ then _ else _) + cover r (-1) = 0
      rw [ih.1, if_neg (by omega)]; rfl
    · show (if _ then _ else _) + cover r (n : Int) = 0
      rw [ih.2, if_neg (by omega)]; rfl
/-- deeds that turn a row into another turn it as the gaps say -/
theorem covers_mod {m : Int} {a b : List Int} {ds : List Deed} (hok : DeedsOk a.length ds) (hb : behind m a ds = b) : (covers a.length ds).map (· % m) = (turns a b).map (· % m) := by
  have hl : a.length = b.length := by rw [← hb, behind_length]
  obtain ⟨z1, z2⟩ := cover_out hok
  refine List.ext_getElem? fun i => ?_
  rw [List.getElem?_map, List.getElem?_map]
  have ec : (covers a.length ds)[i]? = if i < a.length + 2 then some (cover ds ((i : Int) - 1)) else none := by
    unfold covers
    rw [List.getElem?_map]
    by_cases h : i < a.length + 2
    · rw [if_pos h, List.getElem?_range h]; rfl
    · rw [if_neg h, List.getElem?_eq_none (by rw [List.length_range]; omega)]; rfl
  rw [ec]
  have hz : (List.zipWith (fun x y : Int => y - x) a b).length = a.length := by rw [List.length_zipWith, hl]; exact Nat.min_self _
  unfold turns
  cases i with
  | zero =>
    rw [if_pos (by omega)]
    show some (cover ds (-1) % m) = some (0 % m)
    rw [z1]
  | succ j =>
    rw [List.append_assoc, List.singleton_append, List.getElem?_cons_succ]
    by_cases h1 : j < a.length
    · rw [if_pos (by omega), List.getElem?_append_left (by omega), List.getElem?_zipWith]
      have ea := List.getElem?_eq_getElem h1
      have eb : b[j]? = some ((a[j] + cover ds (j : Int)) % m) := by rw [← hb, behind_get, ea]; rfl
      rw [ea, eb]
      show some (cover ds (((j + 1 : Nat) : Int) - 1) % m) = some (((a[j] + cover ds (j : Int)) % m - a[j]) % m)
      rw [show ((j + 1 : Nat) : Int) - 1 = (j : Int) by omega, Int.emod_sub_emod]
      congr 2; omega
    · rw [List.getElem?_append_right (by omega), hz]
      by_cases h2 : j = a.length
      · subst h2
        rw [if_pos (by omega), Nat.sub_self]
        show some (cover ds (((a.length + 1 : Nat) : Int) - 1) % m) = some (0 % m)
        rw [show ((a.length + 1 : Nat) : Int) - 1 = (a.length : Int) by omega, z2]
      · rw [if_neg (by omega)]
        obtain ⟨k, hk⟩ : ∃ k, j - a.length = k + 1 := ⟨j - a.length - 1, by omega⟩
        rw [hk]; rfl
theorem deeds_sol {m : Int} {a b : List Int} {ds : List Deed} (hok : DeedsOk a.length ds) (hb : behind m a ds = b) : Sol m (raw a b) (diffs (covers a.length ds)) := by
  refine ⟨diffs_mod (covers_mod hok hb), ?_⟩
  obtain ⟨z1, z2⟩ := cover_out hok
  rw [covers_sum, z1, z2]; rfl
/-- what the law asks of deeds and a mark -/
def Right (m : Int) (a b : List Int) (ds : List Deed) (k : Int) : Prop := DeedsOk a.length ds ∧ behind m a ds = b ∧ 0 ≤ k ∧ k ≤ m ∧ m * steps ds = bound m k ((raw a b).map (· % m))
instance (n : Int) (d : Deed) : Decidable (DeedOk n d) := by unfold DeedOk; infer_instance
instance (n : Int) (ds : List Deed) : Decidable (DeedsOk n ds) := by unfold DeedsOk; infer_instance
instance (m : Int) (a b : List Int) (ds : List Deed) (k : Int) : Decidable (Right m a b ds k) := by unfold Right; infer_instance
theorem Right.fewest {m : Int} {a b : List Int} {ds : List Deed} {k : Int} (hm : 0 < m) (h : Right m a b ds k) : Fewest m (raw a b) (steps ds) := by
  obtain ⟨h1, h2, h3, h4, h5⟩ := h
  exact (fewest_of hm h3 h4 (deeds_sol h1 h2) (cost_covers h1) h5).1
end DR
namespace DR
/-! ### a walk from row to row, step by step -/
theorem steps_append (a b : List Deed) : steps (a ++ b) = steps a + steps b := by unfold steps; rw [List.map_append, sumI_append]
/-- a deed of one step -/
def UnitOk (n : Int) (u : Deed) : Prop := 0 ≤ u.1 ∧ u.1 < u.2.1 ∧ u.2.1 ≤ n ∧ (u.2.2 = 1 ∨ u.2.2 = -1)
theorem UnitOk.deed {n : Int} {u : Deed} (h : UnitOk n u) : DeedOk n u := ⟨h.1, h.2.1, h.2.2.1, by rcases h.2.2.2 with e | e <;> rw [e] <;> decide⟩
theorem cover_rep (f e s : Int) (i : Int) : ∀ k : Nat, cover (List.replicate k (f, e, s)) i = k * (if f ≤ i ∧ i < e then s else 0)
  | 0 => by
    show (0 : Int) = ((0 : Nat) : Int) * _
    rw [Int.natCast_zero, Int.zero_mul]
  | k + 1 => by
    rw [List.replicate_succ]
    show (if f ≤ i ∧ i < e then s else 0) + cover (List.replicate k (f, e, s)) i = _
    rw [cover_rep f e s i k, Int.natCast_add, Int.add_mul]
    show _ = _ + 1 * _
    rw [Int.one_mul]; omega
/-- each deed, step by step -/
theorem units_of {n : Int} : ∀ {ds : List Deed}, DeedsOk n ds → ∃ us : List Deed, (∀ u ∈ us, UnitOk n u) ∧ (∀ i, cover us i = cover ds i) ∧ (us.length : Int) = steps ds
  | [], _ => ⟨[], fun u hu => (nomatch hu), fun _ => rfl, rfl⟩
  | (f, e, s) :: r, h => by
    obtain ⟨us, h1, h2, h3⟩ := units_of (ds := r) (fun x hx => h x (List.mem_cons_of_mem _ hx))
    obtain ⟨g1, g2, g3, g4⟩ := h (f, e, s) List.mem_cons_self
    refine ⟨List.replicate s.natAbs (f, e, if 0 < s then 1 else -1) ++ us, ?_, ?_, ?_⟩
    · intro u hu
      rcases List.mem_append.mp hu with q | q
      · rw [List.eq_of_mem_replicate q]
        refine ⟨g1, g2, g3, ?_⟩
        show (if 0 < s then (1 : Int) else -1) = 1 ∨ (if 0 < s then (1 : Int) else -1) = -1
        split
        · exact .inl rfl
        · exact .inr rfl
      · exact h1 u q
    · intro i
      rw [cover_append, cover_rep, h2]
      show _ = (if f ≤ i ∧ i < e then s else 0) + cover r i
      congr 1
      by_cases c : f ≤ i ∧ i < e
      · rw [if_pos c, if_pos c]
        split
        · rw [Int.mul_one]; omega
        · rw [Int.mul_neg, Int.mul_one]
          have : s ≠ 0 := g4
          omega
      · rw [if_neg c, if_neg c, Int.mul_zero]
    · rw [List.length_append, List.length_replicate, steps_cons]
      have : ab s = (s.natAbs : Int) := by unfold ab; split <;> omega
      show ((s.natAbs + us.length : Nat) : Int) = ab s + steps r
      rw [this, ← h3]; omega
/-- rows met, with the steps taken -/
abbrev Met := List (List Int × Int)
def Has (es : Met) (y : List Int) (k : Int) : Prop := ∃ c, (y, c) ∈ es ∧ c ≤ k
theorem Has.more {es fs : Met} {y : List Int} {k : Int} (h : Has es y k) : Has (es ++ fs) y k := by
  obtain ⟨c, h1, h2⟩ := h
  exact ⟨c, List.mem_append_left _ h1, h2⟩
def Reach (n : Int) (start y : List Int) (c : Int) : Prop := ∃ us, DeedsOk start.length us ∧ behind n start us = y ∧ steps us = c
/-- all steps from row, cost c, are met -/
def AllF (n : Int) (es : Met) (row : List Int) (c : Int) (f : Nat) : Prop := ∀ u, UnitOk row.length u → u.1 < f → Has es (behind n row [u]) (c + 1)
def AllE (n : Int) (es : Met) (row : List Int) (c : Int) (f e : Nat) : Prop := ∀ u, UnitOk row.length u → u.1 = f → u.2.1 < e → Has es (behind n row [u]) (c + 1)
structure Walked (n : Int) (start : List Int) (es : Met) (at' : Nat) : Prop where
  nd : (es.map (·.1)).Nodup
  st : es[0]? = some (start, 0)
  path : ∀ e ∈ es, Reach n start e.1 e.2
  mono : ∀ (i j : Nat) (x y : List Int × Int), es[i]? = some x → es[j]? = some y → i ≤ j → x.2 ≤ y.2
  near : ∀ (x e : List Int × Int), es[at']? = some x → e ∈ es → e.2 ≤ x.2 + 1
  done : ∀ (j : Nat) (x : List Int × Int), j < at' → es[j]? = some x → AllF n es x.1 x.2 start.length
theorem Walked.start {n : Int} (s : List Int) (hr : RowOk n s) : Walked n s [(s, 0)] 0 := by
  refine ⟨by simp, rfl, fun e he => ?_, fun i j x y hi hj _ => ?_, fun x e hx he => ?_, fun j x hj _ => absurd hj (Nat.not_lt_zero _)⟩
  · rw [List.mem_singleton.mp he]
    exact ⟨[], fun d hd => (nomatch hd), behind_nil hr, rfl⟩
  · match i, j, hi, hj with
    | 0, 0, hi, hj =>
      rw [← Option.some.inj hi, ← Option.some.inj hj]
      exact Int.le_refl _
    | i + 1, _, hi, _ => simp at hi
    | 0, j + 1, _, hj => simp at hj
  · rw [← Option.some.inj hx, List.mem_singleton.mp he]
    show (0 : Int) ≤ 0 + 1
    decide
/-- the row in turn is done -/
theorem Walked.next {n : Int} {s : List Int} {es : Met} {k : Nat} {x : List Int × Int} (h : Walked n s es k) (hx : es[k]? = some x) (hd : AllF n es x.1 x.2 s.length) : Walked n s es (k + 1) := by
  refine ⟨h.nd, h.st, h.path, h.mono, fun y e hy he => ?_, fun j y hj hy => ?_⟩
  · have := h.near x e hx he
    have := h.mono k (k + 1) x y hx hy (by omega)
    omega
  · by_cases e : j = k
    · subst e
      rw [hx] at hy
      have := Option.some.inj hy
      subst this
      exact hd
    · exact h.done j y (by omega) hy
/-- a row is met for the first time -/
theorem Walked.add {n : Int} {s : List Int} {es : Met} {k : Nat} {x : List Int × Int} {u : Deed} (h : Walked n s es k) (hx : es[k]? = some x) (hu : UnitOk s.length u) (hnew : ∀ c, (behind n x.1 [u], c) ∉ es) :
    Walked n s (es ++ [(behind n x.1 [u], x.2 + 1)]) k := by
  have hk := (List.getElem?_eq_some_iff.mp hx).1
  have hxm := List.mem_of_getElem? hx
  have old : ∀ {i : Nat} {z : List Int × Int}, i < es.length → (es ++ [(behind n x.1 [u], x.2 + 1)])[i]? = some z → es[i]? = some z := fun {i z} hi e => by rw [List.getElem?_append_left hi] at e; exact e
  have last : ∀ {i : Nat} {z : List Int × Int}, ¬ i < es.length → (es ++ [(behind n x.1 [u], x.2 + 1)])[i]? = some z → z = (behind n x.1 [u], x.2 + 1) := fun {i z} hi e => by
    rw [List.getElem?_append_right (by omega)] at e
    have : i - es.length = 0 := by
      have := (List.getElem?_eq_some_iff.mp e).1
      simp at this
      omega
    rw [this] at e
    exact (Option.some.inj e).symm
  refine ⟨?_, ?_, fun e he => ?_, fun i j y z hi hj hij => ?_, fun y e hy he => ?_, fun j y hj hy => ?_⟩
  · rw [List.map_append]
    refine List.nodup_append.mpr ⟨h.nd, by simp, ?_⟩
    intro a ha b hb e
    have : b = behind n x.1 [u] := by simpa using hb
    subst this
    subst e
    obtain ⟨z, hz, e2⟩ := List.mem_map.mp ha
    exact hnew z.2 (by rw [← e2]; exact hz)
  · rw [List.getElem?_append_left (by omega)]; exact h.st
  · rcases List.mem_append.mp he with q | q
    · exact h.path e q
    · rw [List.mem_singleton.mp q]
      obtain ⟨us, p1, p2, p3⟩ := h.path x hxm
      refine ⟨us ++ [u], fun d hd => ?_, ?_, ?_⟩
      · rcases List.mem_append.mp hd with r | r
        · exact p1 d r
        · rw [List.mem_singleton.mp r]; exact hu.deed
      · rw [← behind_behind, p2]
      · rw [steps_append, p3, steps_cons]
        have : ab u.2.2 = 1 := by rcases hu.2.2.2 with e | e <;> rw [e] <;> decide
        rw [this]; rfl
  · by_cases h1 : i < es.length
    · by_cases h2 : j < es.length
      · exact h.mono i j y z (old h1 hi) (old h2 hj) hij
      · rw [last h2 hj]
        exact h.near x y hx (List.mem_of_getElem? (old h1 hi))
    · rw [last h1 hi, last (by omega) hj]
      exact Int.le_refl _
  · have e1 := old hk hy
    rw [hx] at e1
    have e2 := Option.some.inj e1
    subst e2
    rcases List.mem_append.mp he with q | q
    · exact h.near x e hx q
    · rw [List.mem_singleton.mp q]
      exact Int.le_refl _
  · have := h.done j y hj (old (by omega) hy)
    exact fun v hv hf => (this v hv hf).more
/-- at the end each row is met, with the fewest steps -/
theorem Walked.end {n : Int} {s : List Int} {es : Met} {k : Nat} (h : Walked n s es k) (hr : RowOk n s) (hend : es.length ≤ k) : ∀ (us : List Deed), (∀ u ∈ us, UnitOk s.length u) → Has es (behind n s us) us.length := by
  intro us
  have key : ∀ (l : Nat), l ≤ us.length → (∀ u ∈ us, UnitOk s.length u) → RowOk n s → Has es (behind n s (us.take l)) l := by
    intro l
    induction l with
    | zero =>
      intro _ _ hr
      rw [List.take_zero, behind_nil hr]
      exact ⟨0, List.mem_of_getElem? h.st, by decide⟩
    | succ l ih =>
      intro hl hu hr
      obtain ⟨c, h1, h2⟩ := ih (by omega) hu hr
      obtain ⟨j, hj⟩ := List.mem_iff_getElem?.mp h1
      have hjl := (List.getElem?_eq_some_iff.mp hj).1
      have hul : l < us.length := by omega
      have hd := h.done j _ (by omega) hj us[l] (by rw [behind_length]; exact hu _ (List.getElem_mem hul)) (by
        have := (hu _ (List.getElem_mem hul))
        have a := this.2.1
        have b := this.2.2.1
        omega)
      obtain ⟨c2, h3, h4⟩ := hd
      rw [behind_behind, ← take_snoc (List.getElem?_eq_getElem hul)] at h3
      exact ⟨c2, h3, by
        have h4' : c2 ≤ c + 1 := h4
        omega⟩
  intro hu
  have := key us.length (Nat.le_refl _) hu hr
  rw [List.take_length] at this
  exact this
theorem key_one : ∀ {es : Met} {y : List Int} {c d : Int}, (es.map (·.1)).Nodup → (y, c) ∈ es → (y, d) ∈ es → c = d
  | (z, a) :: r, y, c, d, hn, h1, h2 => by
    rw [List.map_cons, List.nodup_cons] at hn
    rcases List.mem_cons.mp h1 with e1 | e1 <;> rcases List.mem_cons.mp h2 with e2 | e2
    · have a1 := Prod.mk.inj e1
      have a2 := Prod.mk.inj e2
      rw [a1.2, a2.2]
    · exact absurd (List.mem_map_of_mem (f := (·.1)) e2) (by rw [show (y, d).1 = z from (Prod.mk.inj e1).1]; exact hn.1)
    · exact absurd (List.mem_map_of_mem (f := (·.1)) e1) (by rw [show (y, c).1 = z from (Prod.mk.inj e2).1]; exact hn.1)
    · exact key_one hn.2 e1 e2
/-- a walk from row to row takes as many steps as are told -/
theorem Walked.found {n : Int} {s y : List Int} {es : Met} {k : Nat} {ds : List Deed} {q : Int} (h : Walked n s es k) (hn : 0 < n) (hr : RowOk n s) (hend : es.length ≤ k) (hR : Right n s y ds q) : (y, steps ds) ∈ es := by
  obtain ⟨us, h1, h2, h3⟩ := units_of hR.1
  obtain ⟨c, h4, h5⟩ := h.end hr hend us h1
  have e : behind n s us = y := by rw [← hR.2.1]; exact behind_congr n s fun i _ => by rw [h2]
  rw [e] at h4
  obtain ⟨vs, p1, p2, p3⟩ := h.path _ h4
  have low := (hR.fewest hn).2 _ (deeds_sol p1 p2)
  have up := cost_covers p1
  have ec : c = steps ds := by
    have p3' : steps vs = c := p3
    omega
  rw [← ec]
  exact h4
/-! ### there are few rows -/
def rowsOf (n : Nat) : Nat → List (List Int)
  | 0 => [[]]
  | l + 1 => (List.range n).flatMap fun x : Nat => (rowsOf n l).map fun r => (x : Int) :: r
theorem mem_rowsOf {n : Nat} : ∀ (r : List Int), RowOk n r → r ∈ rowsOf n r.length
  | [], _ => List.mem_singleton.mpr rfl
  | x :: r, h => by
    have ih := mem_rowsOf r fun y hy => h y (List.mem_cons_of_mem _ hy)
    have hx := h x List.mem_cons_self
    show x :: r ∈ (List.range n).flatMap fun x : Nat => (rowsOf n r.length).map fun r => (x : Int) :: r
    refine List.mem_flatMap.mpr ⟨x.toNat, List.mem_range.mpr (by omega), List.mem_map.mpr ⟨r, ih, ?_⟩⟩
    congr 1; omega
theorem nodup_le {α : Type} [DecidableEq α] : ∀ (l t : List α), l.Nodup → (∀ x ∈ l, x ∈ t) → l.length ≤ t.length
  | [], t, _, _ => Nat.zero_le _
  | x :: l, t, hn, hs => by
    rw [List.nodup_cons] at hn
    have hx := hs x List.mem_cons_self
    have ih := nodup_le l (t.erase x) hn.2 fun y hy => (List.mem_erase_of_ne (fun e => hn.1 (by rw [← e]; exact hy))).mpr (hs y (List.mem_cons_of_mem _ hy))
    rw [List.length_erase_of_mem hx] at ih
    have := List.length_pos_of_mem hx
    rw [List.length_cons]; omega
theorem Walked.rows {n : Int} {s : List Int} {es : Met} {k : Nat} (h : Walked n s es k) (hn : 0 < n) {e : List Int × Int} (he : e ∈ es) : RowOk n e.1 ∧ e.1.length = s.length := by
  obtain ⟨us, p1, p2, p3⟩ := h.path e he
  rw [← p2]
  exact ⟨behind_ok hn _ _, behind_length _ _ _⟩
theorem Walked.few {n : Nat} {s : List Int} {es : Met} {k : Nat} (h : Walked n s es k) (hn : 2 ≤ n) (hn4 : n ≤ 4) (hl : s.length ≤ 3) : es.length ≤ 64 := by
  have q := nodup_le (es.map (·.1)) (rowsOf n s.length) h.nd fun x hx => by
    obtain ⟨e, he, rfl⟩ := List.mem_map.mp hx
    obtain ⟨a, b⟩ := h.rows (by omega) he
    rw [← b]
    exact mem_rowsOf _ a
  rw [List.length_map] at q
  have all : ∀ n ∈ [2, 3, 4], ∀ l ∈ [0, 1, 2, 3], (rowsOf n l).length ≤ 64 := by decide +kernel
  have := all n (by simp only [List.mem_cons, List.not_mem_nil, or_false]; omega) s.length (by simp only [List.mem_cons, List.not_mem_nil, or_false]; omega)
  omega
end DR
/-! generator expressions over a list, their elements anything that a rule says: the generator's turns -/
namespace DR
open PySem PySem.Spec PyProof.Rows L2 GenW

/-- the consumer's own object, where it has one -/
def pinsOf (So : Option Addr) (s : Shared) : List (Addr × Obj) := match So with
  | none => []
  | some S => (match s.heap.get? S with
    | some o => [(S, o)]
    | none => [])
theorem mem_pinsOf {So : Option Addr} {s : Shared} {p : Addr × Obj} (h : p ∈ pinsOf So s) : So = some p.1 ∧ s.heap.get? p.1 = some p.2 := by
  unfold pinsOf at h
  cases So with
  | none => cases h
  | some S =>
    dsimp only at h
    cases e : s.heap.get? S with
    | none => rw [e] at h; cases h
    | some o =>
      rw [e] at h
      have := List.mem_singleton.mp h
      subst this
      exact ⟨rfl, e⟩
theorem pinsOf_heap {So : Option Addr} {s s' : Shared} (h : s'.heap = s.heap) : pinsOf So s' = pinsOf So s := by
  unfold pinsOf
  cases So with
  | none => rfl
  | some S => dsimp only; rw [h]

section
variable {Y : Cx} {A : Around} {elt tg iter : Expr} {scope : Scope} {pos : Pos} {I a : Addr} {xs : List V} {So : Option Addr} {g : TG} {te : TE} {W : List V → L2.St → Hp → Prop} {Z : List V → V → L2.St → Hp → Prop}
/-- the generator's code -/
abbrev geC (elt tg iter : Expr) (scope : Scope) (pos : Pos) (I : Addr) (env : Env) : Code := .compLoop (.GeneratorExp elt [⟨tg, iter, [], 0⟩] scope pos) 0 (.ref I) .none env
/-- where it stands: the invariant, the iterator -/
def GeAt (Y : Cx) (I a : Addr) (i : Nat) (pins : List (Addr × Obj)) (σ : L2.St) (H : Hp) (s : Shared) : Prop := Inv Y pins σ H s ∧ H I = none ∧ s.heap.IsListIter I a i
def geP (Y : Cx) (So : Option Addr) (N : Nat) (W : List V → L2.St → Hp → Prop) : Nat → Shared → Shared → Prop := fun n s₀ s => n = 0 ∧ ∃ ys σ H, ys.length = N ∧ Inv Y (pinsOf So s₀) σ H s ∧ W ys σ H
def geY (Y : Cx) (So : Option Addr) (I a : Addr) (N : Nat) (W : List V → L2.St → Hp → Prop) (Z : List V → V → L2.St → Hp → Prop) : Protocol := fun n s₀ v s kap =>
  ∃ ys y σ H, n + 1 + ys.length = N ∧ RelV y v ∧ GeAt Y I a (ys.length + 1) (pinsOf So s₀) σ H s ∧ Z ys y σ H ∧
    ∀ s'', GeAt Y I a (ys.length + 1) (pinsOf So s'') σ H s'' → W (ys ++ [y]) σ H → kap (.send .none) s''

theorem seg_ge (hov : A.over (geC elt tg iter scope pos I Y.env) [] = Y.A) (hh : Y.A.handled = none) (hco : Y.env.scope.isCoroutine = false) (hex : I ∈ Y.ex) (hIa : a ≠ I) (hpn : ∀ p ∈ Y.pn, p.1 ≠ I) (hSo : So ≠ some I)
    (hxe : ∀ e s, ¬ Y.xe e s) (hg : PG Y tg g) (he : PE Y elt te) (hL : ∀ ys σ H, W ys σ H → SqL Y.K H a xs)
    (turn : ∀ ys x σ H, xs[ys.length]? = some x → W ys σ H → g x σ H fun σ1 H1 => te σ1 H1 fun y H2 => Z ys y σ1 H2) :
    ∀ (k : Nat) (ys : List V) (s₀ s : Shared) (σ : L2.St) (H : Hp), k + ys.length = xs.length → GeAt Y I a ys.length (pinsOf So s₀) σ H s → W ys σ H →
      Seg (model Y.prog Y.w) A (fun n s₀ r s₁ => r = .ok .next ∧ geP Y So xs.length W n s₀ s₁) (geY Y So I a xs.length W Z) k s₀ (geC elt tg iter scope pos I Y.env) ((model Y.prog Y.w).den (geC elt tg iter scope pos I Y.env)) [] s := by
  have nS : ∀ {s : Shared}, ∀ p ∈ pinsOf So s, p.1 ≠ I := fun {s} p hp z => hSo (by rw [← z]; exact (mem_pinsOf hp).1)
  intro k
  induction k with
  | zero =>
    intro ys s₀ s σ H hk hI hw
    obtain ⟨J, hn, hit⟩ := hI
    obtain ⟨its, rv, hl, hz⟩ := J.list (hL ys σ H hw)
    have hlen : its.length = ys.length := by rw [← rv.length]; omega
    show Seg _ A _ _ _ s₀ _ ((compTurn (.GeneratorExp elt [⟨tg, iter, [], 0⟩] scope pos) 0 (.ref I) .none Y.env).onRaise (leaving Y.env)) [] s
    rw [compTurn_gen, Sem.onRaise_eq_wrap]
    refine seg_bind_wrap (wpAny_standAt ?_)
    refine seg_bind_wrap ?_
    rw [hov]
    refine wpAny_pyNext_list_end hh hit hl.isList (by simp [hlen]) fun h' he' => ?_
    have J' := J.turned (t' := s.toks) (it := I) (h' := h') (fun b o hb e => he' b o hb e) hn (J.ok.exf I hex).1 (.inl hex) (J.ok.exf I hex).2 fun p hp => by
      rcases List.mem_append.mp hp with hp | hp
      · exact hpn p hp
      · exact nS p hp
    exact seg_end (.ok .next) ⟨rfl, rfl, ys, σ, H, by omega, J', hw⟩
  | succ k ih =>
    intro ys s₀ s σ H hk hI hw
    obtain ⟨J, hn, hit⟩ := hI
    obtain ⟨its, rv, hl, hz⟩ := J.list (hL ys σ H hw)
    have hlt : ys.length < xs.length := by omega
    have ex := List.getElem?_eq_getElem hlt
    obtain ⟨u, eu, ru⟩ := rv.get ex
    show Seg _ A _ _ _ s₀ _ ((compTurn (.GeneratorExp elt [⟨tg, iter, [], 0⟩] scope pos) 0 (.ref I) .none Y.env).onRaise (leaving Y.env)) [] s
    rw [compTurn_gen, Sem.onRaise_eq_wrap]
    refine seg_bind_wrap (wpAny_standAt ?_)
    refine seg_bind_wrap ?_
    rw [hov]
    refine wpAny_pyNext_list_item hit hl.isList (x := u) (by simpa using eu) fun h1 hit1 hs1 => ?_
    have J1 := J.turned (t' := s.toks) (it := I) (h' := h1) (fun b o hb e => hs1.extBut b o hb e) hn (J.ok.exf I hex).1 (.inl hex) (J.ok.exf I hex).2 fun p hp => by
      rcases List.mem_append.mp hp with hp | hp
      · exact hpn p hp
      · exact nS p hp
    obtain ⟨oi, ho, hc, hd⟩ := id hit1
    have J2 : Inv Y (pinsOf So s₀ ++ [(I, oi)]) σ H { s with heap := h1, toks := s.toks } := J1.pins_of fun p hp => by
      rcases List.mem_append.mp hp with hp | hp
      · exact J1.pin p (List.mem_append_right _ hp)
      · have e := List.mem_singleton.mp hp
        subst e
        exact ⟨ho, hn, (J.ok.exf I hex).1, J.ok.exfs I hex, fun v q => by rw [hd] at q; cases q⟩
    refine seg_bind_wrap (letGo_of_cls ho hc hd (by decide) ?_)
    refine seg_bind_wrap ?_
    rw [hov]
    refine wpAny_mono (hg.run _ _ σ H _ u _ J2 ru (turn ys _ σ H ex hw)) (fun _ s3 h3 => ?_) fun _ _ z => (hxe _ _ z).elim
    obtain ⟨σ1, H1, J3, q3⟩ := h3
    refine seg_bind_wrap ?_
    rw [hov]
    refine wpAny_tests_nil ?_
    simp only [if_true]
    have hy : ∀ v, yieldOut Y.env v = yieldValue v := fun v => by simp only [yieldOut, hco, Bool.false_eq_true, if_false]
    simp only [hy]
    rw [Sem.bind_eq_wrap', Sem.bind_eq_wrap', Sem.wrap_wrap, Sem.wrap_wrap]
    refine seg_wrap ?_
    rw [hov]
    refine wpAny_mono (he.run _ s3 σ1 H1 _ J3 q3) (fun v s4 h4 => ?_) fun _ _ z => (hxe _ _ z).elim
    obtain ⟨y, H2, J4, r4, z4⟩ := h4
    have pI := J4.pin (I, oi) (List.mem_append_right _ (List.mem_append_right _ (List.mem_singleton.mpr rfl)))
    have J5 : Inv Y (pinsOf So s₀) σ1 H2 s4 := J4.unpinned
    refine seg_at (seg_yield rfl rfl rfl ⟨ys, y, σ1, H2, by omega, r4, ⟨J5, pI.2.1, oi, pI.1, hc, hd⟩, z4, fun s'' h5 w5 => ?_⟩)
    have hl1 : (ys ++ [y]).length = ys.length + 1 := by rw [List.length_append]; rfl
    refine seg_again rfl (ih (ys ++ [y]) s'' s'' σ1 H2 (by omega) (by rw [hl1]; exact h5) w5)
end
end DR
namespace DR
open PySem PySem.Spec PyProof.Rows L2 GenW
section
variable {Y : Cx} {A : Around} {elt tg iter : Expr} {scope : Scope} {pos : Pos} {I a : Addr} {xs : List V} {So : Option Addr} {g : TG} {te : TE} {W : List V → L2.St → Hp → Prop} {Z : List V → V → L2.St → Hp → Prop}
theorem seg_geStart {s₀ s : Shared} {ys : List V} {k : Nat} (hit : s.heap.IsListIter I a 0)
    {R : GenEnd} {Yp : Protocol} (loop : Seg (model Y.prog Y.w) A R Yp k s₀ (geC elt tg iter scope pos I Y.env) ((model Y.prog Y.w).den (geC elt tg iter scope pos I Y.env)) [] s) :
    Seg (model Y.prog Y.w) A R Yp k s₀ (.compStart (.GeneratorExp elt [⟨tg, iter, [], 0⟩] scope pos) 0 (.ref I) .none Y.env)
      ((model Y.prog Y.w).den (.compStart (.GeneratorExp elt [⟨tg, iter, [], 0⟩] scope pos) 0 (.ref I) .none Y.env)) [] s := by
  show Seg _ A _ _ _ s₀ _ ((compStart (.GeneratorExp elt [⟨tg, iter, [], 0⟩] scope pos) 0 (.ref I) .none Y.env).onRaise (leaving Y.env)) [] s
  unfold compStart
  rw [Sem.onRaise_eq_wrap]
  show Seg _ A _ _ _ s₀ _ ((ask >>= _).wrap _ _ _ _) [] s
  refine seg_bind_wrap (wpAny_askSetting ?_)
  split
  · exact seg_again rfl loop
  · first
      | exact seg_bind_wrap (wpAny_rule (seg_bind_wrap (wpAny_standAt (seg_bind_wrap (wpAny_pyIter_listiter hit (seg_again rfl loop))))))
      | (refine seg_bind_wrap (wpAny_rule ?_); show Seg _ A _ _ _ s₀ _ ((standAt iter.pos >>= _).wrap _ _ _ _) [] s; exact seg_bind_wrap (wpAny_standAt (seg_bind_wrap (wpAny_pyIter_listiter hit (seg_again rfl loop)))))

/-- the generator's own object is pinned -/
def GePn (Y : Cx) (ga : Addr) (gn : Nat) : Prop := ∃ go nm qn, (ga, go) ∈ Y.pn ∧ go.cls = .type "generator" ∧ go.data = .fields #[.int gn 0, nm, qn] ∧ go.slots = #[]
theorem GePn.isGen {ga gn pins σ H s} (h : GePn Y ga gn) (J : Inv Y pins σ H s) : s.heap.IsGen ga gn := by
  obtain ⟨go, nm, qn, hm, hc, hd, hs⟩ := h
  exact ⟨go, nm, qn, (J.pin _ (List.mem_append_left _ hm)).1, hc, hd, hs⟩
/-- the generator sleeps at a turn -/
def GeS (Y : Cx) (So : Option Addr) (I a : Addr) (N : Nat) (W : List V → L2.St → Hp → Prop) (Z : List V → V → L2.St → Hp → Prop) (A : Around) (gn : Nat) (ys : List V) (σ : L2.St) (H : Hp) (s : Shared) : Prop :=
  GeAt Y I a ys.length (pinsOf So s) σ H s ∧ W ys σ H ∧ ∃ gs, s.gens[gn]? = some gs ∧ ∀ s'', GeAt Y I a ys.length (pinsOf So s'') σ H s'' → W ys σ H →
    gs.Goes (model Y.prog Y.w) A (fun n s₀ r s₁ => r = .ok .next ∧ geP Y So N W n s₀ s₁) (geY Y So I a N W Z) (N - ys.length) (.send .none) s''
theorem inv_gens {pins : List (Addr × Obj)} {σ : L2.St} {H : Hp} {s : Shared} (J : Inv Y pins σ H s) {g : Nat} {x : GenState} (hx : x.bare = true) : Inv Y pins σ H (s.setGen g x) :=
  J.call' (ch := []) rfl Un.refl J.hok (allBare_setGen J.bare hx) fun b hb => by simp at hb
theorem inv_heap {pins : List (Addr × Obj)} {σ : L2.St} {H : Hp} {s : Shared} {h' : Heap} (J : Inv Y pins σ H s) (k : ∀ b o, s.heap.get? b = some o → h'.get? b = some o) : Inv Y pins σ H { s with heap := h' } :=
  J.kept (t' := s.toks) k

theorem next_ge {E : Value → Shared → Prop} {N ga gn : Nat} {ys : List V} {σ : L2.St} {H : Hp} {s : Shared} {Q : Option Value → Shared → Prop} (hh : A.handled = none) (hroom : A.depth < recursionLimit) (hpn : GePn Y ga gn) (hS : GeS Y So I a N W Z A.in1 gn ys σ H s)
    (hQ : ∀ zs y v σ' H' s' gs, zs.length < N → RelV y v → GeAt Y I a (zs.length + 1) (pinsOf So s) σ' H' s' → Z zs y σ' H' → s'.gens[gn]? = some gs →
      (∀ s'', GeAt Y I a (zs.length + 1) (pinsOf So s'') σ' H' s'' → W (zs ++ [y]) σ' H' → N - ys.length = N - (zs.length + 1) + 1 ∧
        gs.Goes (model Y.prog Y.w) A.in1 (fun n s₀ r s₁ => r = .ok .next ∧ geP Y So N W n s₀ s₁) (geY Y So I a N W Z) (N - (zs.length + 1)) (.send .none) s'') → Q (some v) s')
    (hP : ∀ zs σ' H' s', N - ys.length = 0 → zs.length = N → Inv Y (pinsOf So s) σ' H' s' → W zs σ' H' → Q none s') : wpAny (model Y.prog Y.w) A (pyNext (.ref ga)) Q E s := by
  obtain ⟨⟨J, hn, hit⟩, hw, gs, hgs, hgo⟩ := hS
  have hgl : gn + 1 ≤ s.gens.size := (Array.getElem?_eq_some_iff.mp hgs).1
  have hp0 : pinsOf So (s.setGen gn .running) = pinsOf So s := pinsOf_heap rfl
  refine wpAny_gsz (n := gn + 1) hgl (wpAny_pyNext_genexpQ (P := geP Y So N W) (Y := geY Y So I a N W Z) (n := N - ys.length) hh J.nolimit hroom (hpn.isGen J) hgs (hgo (s.setGen gn .running) ⟨by rw [hp0]; exact inv_gens J rfl, hn, hit⟩ hw) (fun v s₁ gs' hb hv => ?_) (fun s₁ hp h' hk => ?_))
  · intro hsz
    obtain ⟨zs, y, σ', H', hlen, rv, ⟨J', hn', hit'⟩, hz, hkap⟩ := hv
    rw [hp0] at J'
    have hsz1 : gn < s₁.gens.size := by
      have q : (s₁.setGen gn gs').gens.size = s₁.gens.size := setGen_size _ _ _
      have hsz' : gn + 1 ≤ (s₁.setGen gn gs').gens.size := hsz
      omega
    refine hQ zs y v σ' H' _ gs' (by omega) rv ⟨inv_gens J' hb, hn', hit'⟩ hz (setGen_at hsz1) fun s'' h'' w'' => ?_
    have k := hkap s'' h'' w''
    cases e : N - ys.length with
    | zero =>
      rw [e] at k
      exact False.elim k
    | succ m =>
      rw [e] at k hlen
      have hm : N - (zs.length + 1) = m := by omega
      rw [hm]
      exact ⟨rfl, k⟩
  · intro _
    obtain ⟨h0, zs, σ', H', hlen, J', w'⟩ := hp
    rw [hp0] at J'
    refine hP zs σ' H' _ h0 hlen ?_ w'
    have J1 := inv_gens (g := gn) (x := .finished) J' rfl
    exact inv_heap J1 hk

/-- all(..) -/
theorem all_ge {R : Result → Shared → Prop} {N ga gn : Nat} {QF : L2.St → Hp → Prop} (hh : A.handled = none) (hroom : A.depth < recursionLimit) (hpn : GePn Y ga gn)
    (hF : ∀ σ H s', Inv Y [] σ H s' → QF σ H → R (.ok (.ret (.bool false))) s') (hT : ∀ ys σ H s', ys.length = N → Inv Y [] σ H s' → W ys σ H → R (.ok (.ret (.bool true))) s') :
    ∀ (k : Nat) (ys : List V) (σ : L2.St) (H : Hp) (s : Shared), N - ys.length = k → GeS Y none I a N W (fun ys y σ H => ∃ b, y = .bl b ∧ if b = true then W (ys ++ [y]) σ H else QF σ H) A.in1.in1 gn ys σ H s →
      codeAny (model Y.prog Y.w) A (.builtin "all.loop" ⟨[.ref ga], []⟩) R s := by
  have turn : ∀ (k : Nat), (∀ j, j < k → ∀ (ys : List V) (σ : L2.St) (H : Hp) (s : Shared), N - ys.length = j → GeS Y none I a N W (fun ys y σ H => ∃ b, y = .bl b ∧ if b = true then W (ys ++ [y]) σ H else QF σ H) A.in1.in1 gn ys σ H s →
      codeAny (model Y.prog Y.w) A (.builtin "all.loop" ⟨[.ref ga], []⟩) R s) → ∀ (ys : List V) (σ : L2.St) (H : Hp) (s : Shared), N - ys.length = k → GeS Y none I a N W (fun ys y σ H => ∃ b, y = .bl b ∧ if b = true then W (ys ++ [y]) σ H else QF σ H) A.in1.in1 gn ys σ H s →
      codeAny (model Y.prog Y.w) A (.builtin "all.loop" ⟨[.ref ga], []⟩) R s := by
    intro k ih ys σ H s hk hS
    refine codeAny_builtin F.entry_all_loop ?_
    rw [Around.under_plainId F.plain_all_loop _]
    show wpAny _ A.in1 (pyNext (.ref ga) >>= _) _ _ s
    refine wpAny_bind (next_ge (A := A.in1) hh hroom hpn hS (fun zs y v σ' H' s' gs hzN rv hG hz hgs hc => ?_) (fun zs σ' H' s' _ hl J w => ?_))
    · obtain ⟨b, rfl, hz⟩ := hz
      obtain rfl : v = Value.bool b := rv
      show wpAny _ A.in1 (_ >>= _) _ _ s'
      refine wpAny_bind (wpAny_holding (wpAny_truthy_bool ?_))
      refine wpAny_bind (wpAny_letGo ?_)
      cases b with
      | true =>
        simp only [if_true] at hz ⊢
        have hl1 : (zs ++ [V.bl true]).length = zs.length + 1 := by rw [List.length_append]; rfl
        refine wpAny_pure ⟨plainId_quiet F.plain_all_loop _, ih (N - (zs.length + 1)) ?_ (zs ++ [.bl true]) σ' H' s' (by rw [hl1]) ⟨by rw [hl1]; exact hG, hz, gs, hgs, fun s'' h'' w'' => ?_⟩⟩
        · have := (hc s' hG hz).1
          omega
        · rw [hl1] at h'' ⊢
          exact (hc s'' h'' w'').2
      | false =>
        simp only [Bool.false_eq_true, if_false] at hz ⊢
        exact wpAny_bind (wpAny_rule (wpAny_pure (hF σ' H' s' hG.1 hz)))
    · exact wpAny_bind (wpAny_rule (wpAny_pure (hT zs σ' H' s' hl J w)))
  intro k
  induction k using Nat.strongRecOn with
  | ind k ih => exact turn k ih
end
end DR
namespace DR
open PySem PySem.Spec PyProof.Rows L2 GenW
section
variable {Y : Cx} {A : Around} {I a : Addr} {W : List V → L2.St → Hp → Prop}
/-- an object out of the frame's reach may be changed by others -/
theorem inv_out {S : Addr} {o o' : Obj} {σ : L2.St} {H : Hp} {s : Shared} {h' : Heap} {t' : Nat} (J : Inv Y [(S, o)] σ H s) (hp : ∀ p ∈ Y.pn, p.1 ≠ S) (hA : Apart Y S)
    (k : ∀ b ob, b ≠ S → s.heap.get? b = some ob → h'.get? b = some ob) (e : h'.get? S = some o') (hd : ∀ v, o'.data ≠ .cell v) : Inv Y [(S, o')] σ H { s with heap := h', toks := t' } := by
  obtain ⟨_, hS0, hSL, hSf, _⟩ := J.pin (S, o) (List.mem_append_right _ (List.mem_singleton.mpr rfl))
  have J0 : Inv Y [] σ H s := J.pins_of fun p hp => by simp at hp
  have nt : ∀ b u, H b = some u → b ≠ S := fun b u q hb => by rw [hb, hS0] at q; cases q
  have nc : ∀ b, b ∉ [S] → b ≠ S := fun b hb e => hb (by rw [e]; exact List.mem_singleton.mpr rfl)
  have J1 : Inv Y [] σ H { s with heap := h', toks := t' } := by
    refine J0.step (g' := s.gens) (t' := t') (d' := s.drawn) (ch := [S]) (fun b hb => ?_)
      (fun b ob _ _ hc q _ => k b ob (nc b hc) q) (fun b ob _ _ hc q _ => ⟨ob.slots, k b ob (nc b hc) q⟩) (fun _ _ _ _ n => n) (fun b ob hc q => ⟨ob, k b ob (nc b hc) q⟩)
      (fun _ _ q => q) (fun _ _ _ q => q) (fun b ps q => ⟨#[], by rw [q]; simp⟩) (fun m hm => ?_) (fun b u q => ?_) J.bare
    · rw [List.mem_singleton.mp hb]
      refine ⟨.inr hA.1, hA.2.1, hA.2.2, fun p hp' => ?_⟩
      rcases List.mem_append.mp hp' with hp' | hp'
      · exact hp p hp'
      · simp at hp'
    · obtain ⟨ob, es, ep, ho, r⟩ := hm
      exact ⟨ob, es, ep, k _ ob (Ne.symm hSL) ho, r⟩
    · refine (J0.hok b u q).stay (fun c v hc y => k c v ?_ y) (fun _ y => y) fun _ _ y => y
      rcases hc with y | y
      · rw [y]; exact nt b u q
      · exact nt c _ y
  refine J1.pins_of fun p hp' => ?_
  rw [List.mem_singleton.mp hp']
  exact ⟨e, hS0, hSL, hSf, hd⟩
theorem pinsOf_some {S : Addr} {s : Shared} {o : Obj} (h : s.heap.get? S = some o) : pinsOf (some S) s = [(S, o)] := by
  unfold pinsOf
  dsimp only
  rw [h]
theorem take_one {vals : List Int} {zs : List V} {y : V} (h1 : zs = (vals.take zs.length).map V.int) (h2 : zs ++ [y] = (vals.take (zs.length + 1)).map V.int) : ∃ z, y = .int z ∧ (vals.take (zs.length + 1)).sum = (vals.take zs.length).sum + z := by
  have hl := congrArg List.length h2
  rw [List.length_append, List.length_singleton, List.length_map, List.length_take] at hl
  have hlt : zs.length < vals.length := by omega
  have e := List.getElem?_eq_getElem hlt
  have et : vals.take (zs.length + 1) = vals.take zs.length ++ [vals[zs.length]] := by rw [List.take_add_one, e]; rfl
  rw [et, List.map_append, ← h1] at h2
  have := List.append_cancel_left h2
  refine ⟨vals[zs.length], ?_, ?_⟩
  · simpa using this
  · rw [et, List.sum_append]
    simp
/-- sum(..): the numbers are vals -/
theorem sum_ge {R : Result → Shared → Prop} {N ga gn S : Nat} {vals : List Int} (hvl : vals.length = N) (hh : A.handled = none) (hroom : A.depth < recursionLimit) (hpn : GePn Y ga gn) (hpS : ∀ p ∈ Y.pn, p.1 ≠ S) (hAp : Apart Y S) (hSI : S ≠ I)
    (hW : ∀ ys σ H, W ys σ H → ys = (vals.take ys.length).map V.int)
    (hT : ∀ ys σ H s' t, ys.length = N → Inv Y [] σ H s' → W ys σ H → R (.ok (.ret (.int (vals.take N).sum t))) s') :
    ∀ (k : Nat) (ys : List V) (σ : L2.St) (H : Hp) (s : Shared) (tA : Tok) (c : Nat) (st : Int), N - ys.length = k → (st = 0 ∨ st = 2) → s.heap.get? S = some { cls := .type "list", dict := none, data := .seq #[.int (vals.take ys.length).sum tA] c, slots := #[] } →
      GeS Y (some S) I a N W (fun ys y σ H => W (ys ++ [y]) σ H) A.in1.in1 gn ys σ H s →
      codeAny (model Y.prog Y.w) A (.builtin "sum.loop" ⟨[.ref ga, .ref S, rawInt st, rawInt 0], []⟩) R s := by
  intro k
  induction k using Nat.strongRecOn with
  | ind k ih =>
    intro ys σ H s tA c st hk hst2 hS hG
    refine codeAny_builtin F.entry_sum_loop ?_
    rw [Around.under_plainId F.plain_sum_loop _]
    show wpAny _ A.in1 (seqItems? (.ref S) >>= _) _ _ s
    refine wpAny_bind (wpAny_seqItems hS rfl ?_)
    show wpAny _ A.in1 (tryCatch (pyNext (.ref ga)) _ >>= _) _ _ s
    have eP := pinsOf_some hS
    have hWy := hW _ _ _ hG.2.1
    refine wpAny_bind (wpAny_tryCatch (next_ge (A := A.in1) hh hroom hpn hG (fun zs y v σ' H' s' gs hzN rv hGe hz hgs hc => ?_) (fun zs σ' H' s' h0 hl J w => ?_)))
    · rw [eP] at hGe
      have hS' : s'.heap.get? S = some { cls := .type "list", dict := none, data := .seq #[.int (vals.take ys.length).sum tA] c, slots := #[] } := (hGe.1.pin _ (List.mem_append_right _ (List.mem_singleton.mpr rfl))).1
      -- the turn's place
      have hzl := congrArg List.length (hW _ _ _ hz)
      rw [List.length_append, List.length_singleton, List.length_map, List.length_take] at hzl
      have hGe0 : GeAt Y I a (zs.length + 1) (pinsOf (some S) s') σ' H' s' := by rw [pinsOf_some hS']; exact hGe
      have hm := (hc s' hGe0 hz).1
      have hlen : zs.length = ys.length := by omega
      have hl1 : (zs ++ [y]).length = zs.length + 1 := by rw [List.length_append]; rfl
      have hWz := hW _ _ _ hz
      rw [hl1] at hWz
      have hz0 : zs = (vals.take zs.length).map V.int := by
        have q := congrArg (List.take zs.length) hWz
        rw [List.take_left, ← List.map_take, List.take_take, Nat.min_eq_left (by omega)] at q
        exact q
      obtain ⟨z, rfl, esum⟩ := take_one hz0 hWz
      obtain ⟨t, rfl⟩ := (show ∃ t, v = Value.int z t from rv)
      rw [hlen] at esum
      obtain ⟨J, hn, hit⟩ := hGe
      obtain ⟨oi, hio, hic⟩ := hit
      -- behind the storing
      have next : ∀ (h' : Heap) (tk : Nat) (c' : Nat) (tA' : Tok) (st' : Int), (st' = 0 ∨ st' = 2) → (∀ b ob, b ≠ S → s'.heap.get? b = some ob → h'.get? b = some ob) →
          h'.get? S = some { cls := .type "list", dict := none, data := .seq #[.int ((vals.take ys.length).sum + z) tA'] c', slots := #[] } →
          codeAny (model Y.prog Y.w) A (.builtin "sum.loop" ⟨[.ref ga, .ref S, rawInt st', rawInt 0], []⟩) R { s' with heap := h', toks := tk } := by
        intro h' tk c' tA' st' hst' kp e'
        have J2 : Inv Y [(S, _)] σ' H' { s' with heap := h', toks := tk } := inv_out J hpS hAp kp e' fun v q => by cases q
        have G2 : GeAt Y I a (zs.length + 1) (pinsOf (some S) { s' with heap := h', toks := tk }) σ' H' { s' with heap := h', toks := tk } := by
          rw [pinsOf_some (s := { s' with heap := h', toks := tk }) e']
          exact ⟨J2, hn, oi, kp _ _ (Ne.symm hSI) hio, hic⟩
        refine ih (N - (zs.length + 1)) (by omega) (zs ++ [.int z]) σ' H' _ tA' c' st' (by rw [hl1]) hst' ?_ ⟨by rw [hl1]; exact G2, hz, gs, hgs, fun s'' h'' w'' => ?_⟩
        · rw [hl1, hlen, esum]
          exact e'
        · rw [hl1] at h'' ⊢
          exact (hc s'' h'' w'').2
      rcases hst2 with rfl | rfl
      · show wpAny _ A.in1 (if (_ : Bool) = true then (mkInt ((vals.take ys.length).sum + z) >>= _) else _) _ _ _
        split
        · refine wpAny_bind (wpAny_mkInt ?_)
          show wpAny _ A.in1 (updateSeq S (fun _ => #[.int ((vals.take ys.length).sum + z) s'.toks]) >>= _) _ _ _
          refine wpAny_bind ?_
          refine wpAny_updateSeq hS' rfl (wpAny_pure ⟨plainId_quiet F.plain_sum_loop _, ?_⟩)
          exact next _ _ _ s'.toks 0 (.inl rfl) (fun b ob hb e => (Heap.get?_update_other _ _ (Ne.symm hb)).trans e) (Heap.get?_update_self _ hS' rfl)
        · refine wpAny_bind (wpAny_rule ?_)
          refine wpAny_bind (wpAny_attempt (wpAny_holding (wpAny_add_int ?_)))
          show wpAny _ A.in1 (updateSeq S (fun _ => #[.int ((vals.take ys.length).sum + z) s'.toks]) >>= _) _ _ _
          refine wpAny_bind (wpAny_updateSeq hS' rfl ?_)
          have hS₂ := Heap.get?_update_self (Obj.mapSeq fun _ => #[Value.int ((vals.take ys.length).sum + z) s'.toks]) hS' rfl
          refine wpAny_bind (wpAny_letGo ?_)
          refine wpAny_bind (wpAny_updateSeq hS₂ rfl (wpAny_pure ⟨plainId_quiet F.plain_sum_loop _, ?_⟩))
          exact next _ _ _ s'.toks 2 (.inr rfl) (fun b ob hb e => (Heap.get?_update_other _ _ (Ne.symm hb)).trans ((Heap.get?_update_other _ _ (Ne.symm hb)).trans e)) (Heap.get?_update_self _ hS₂ rfl)
      · show wpAny _ A.in1 ((holding [Value.int z t] (binaryOp .Add (.int (vals.take ys.length).sum tA) (.int z t))).attempt >>= _) _ _ _
        refine wpAny_bind (wpAny_attempt (wpAny_holding (wpAny_add_int ?_)))
        show wpAny _ A.in1 (updateSeq S (fun _ => #[.int ((vals.take ys.length).sum + z) s'.toks]) >>= _) _ _ _
        refine wpAny_bind (wpAny_updateSeq hS' rfl ?_)
        have hS₂ := Heap.get?_update_self (Obj.mapSeq fun _ => #[Value.int ((vals.take ys.length).sum + z) s'.toks]) hS' rfl
        refine wpAny_bind (wpAny_letGo ?_)
        refine wpAny_bind (wpAny_updateSeq hS₂ rfl (wpAny_pure ⟨plainId_quiet F.plain_sum_loop _, ?_⟩))
        exact next _ _ _ s'.toks 2 (.inr rfl) (fun b ob hb e => (Heap.get?_update_other _ _ (Ne.symm hb)).trans ((Heap.get?_update_other _ _ (Ne.symm hb)).trans e)) (Heap.get?_update_self _ hS₂ rfl)
    · rw [eP] at J
      have hT' := hT zs σ' H' s' tA hl (J.pins_of fun p hp => by simp at hp) w
      rw [List.take_of_length_le (by omega)] at hT'
      have e : (vals.take ys.length).sum = vals.sum := by rw [List.take_of_length_le (by omega)]
      rw [← e] at hT'
      exact wpAny_pure hT'
end
end DR
/-! all that was tracked is as it was; the tables of code objects may have grown -/
namespace DR
open PySem PySem.Spec PyProof.Rows L2
class NT (o : HO) : Prop where
  nt : ∀ ps, o ≠ .tbl ps
instance {xs} : NT (.lst xs) := ⟨fun _ e => by cases e⟩
instance {xs} : NT (.tup xs) := ⟨fun _ e => by cases e⟩
instance {xs} : NT (.dK xs) := ⟨fun _ e => by cases e⟩
instance {xs} : NT (.dT xs) := ⟨fun _ e => by cases e⟩
instance {S n} : NT (.set S n) := ⟨fun _ e => by cases e⟩
instance {C dx fs} : NT (.ins C dx fs) := ⟨fun _ e => by cases e⟩
instance {x} : NT (.own x) := ⟨fun _ e => by cases e⟩
instance {x} : NT (.xd x) := ⟨fun _ e => by cases e⟩
instance {f x} : NT (.met f x) := ⟨fun _ e => by cases e⟩
instance {f x} : NT (.rng f x) := ⟨fun _ e => by cases e⟩
instance {f x} : NT (.frz f x) := ⟨fun _ e => by cases e⟩
instance {f} : NT (.ext f) := ⟨fun _ e => by cases e⟩
structure Same (H H' : Hp) : Prop where
  keep : ∀ b o, NT o → H b = some o → H' b = some o
  tab : ∀ b ps, H b = some (.tbl ps) → ∃ more, H' b = some (.tbl (ps ++ more)) ∧ (TriplesOk ps.toList → TriplesOk (ps ++ more).toList)
theorem Same.at {H H' : Hp} (s : Same H H') (b : Addr) (o : HO) [n : NT o] (h : H b = some o) : H' b = some o := s.keep b o n h
instance {H H' : Hp} : CoeFun (Same H H') (fun _ => ∀ (b : Addr) (o : HO) [NT o], H b = some o → H' b = some o) := ⟨fun s => Same.at s⟩
theorem nt_or (o : HO) : NT o ∨ ∃ ps, o = .tbl ps := by
  cases o <;> first | exact .inl inferInstance | exact .inr ⟨_, rfl⟩
theorem Same.of {H H' : Hp} (h : ∀ b o, H b = some o → H' b = some o) : Same H H' := ⟨fun b o _ e => h b o e, fun b ps e => ⟨#[], by rw [Array.append_empty]; exact h b _ e, by rw [Array.append_empty]; exact _root_.id⟩⟩
theorem Same.refl (H : Hp) : Same H H := .of fun _ _ h => h
theorem Same.trans {H H1 H2 : Hp} (a : Same H H1) (b : Same H1 H2) : Same H H2 := by
  refine ⟨fun c o n h => b.keep c o n (a.keep c o n h), fun c ps h => ?_⟩
  obtain ⟨m1, e1, t1⟩ := a.tab c ps h
  obtain ⟨m2, e2, t2⟩ := b.tab c _ e1
  exact ⟨m1 ++ m2, by rw [e2, Array.append_assoc], fun t => by rw [← Array.append_assoc]; exact t2 (t1 t)⟩
theorem Same.there {H H' : Hp} (s : Same H H') {b : Addr} {o : HO} (h : H b = some o) : ∃ u, H' b = some u := by
  rcases nt_or o with n | ⟨ps, e⟩
  · exact ⟨o, s.keep b o n h⟩
  · subst e
    obtain ⟨m, e, _⟩ := s.tab b ps h
    exact ⟨_, e⟩
theorem Same.free {H H' : Hp} (s : Same H H') {l : Addr} (h : H' l = Option.none) : H l = Option.none := by
  cases q : H l with
  | none => rfl
  | some o =>
    obtain ⟨u, e⟩ := s.there q
    rw [e] at h
    cases h
theorem Same.seq {K : PySem.W.Frag} {H H' : Hp} {a : Addr} {xs : List V} (e : Same H H') (h : SqL K H a xs) : SqL K H' a xs := by
  rcases h with (h | ⟨o, h⟩) | h
  · exact .inl (.inl (e _ _ h))
  · exact .inl (.inr ⟨o, e _ _ h⟩)
  · exact .inr h
theorem Same.made {H H1 : Hp} {x dx C : Addr} (nx : H x = Option.none) (nd : H dx = Option.none) (k : ∀ b o, (upd (upd H dx (.own x)) x (.ins C dx [])) b = some o → b ≠ x → H1 b = some o) : Same H H1 := .of fun b o e => by
  have h1 : b ≠ x := fun z => by rw [z, nx] at e; cases e
  have h2 : b ≠ dx := fun z => by rw [z, nd] at e; cases e
  exact k b o (by rw [upd_ne h1, upd_ne h2]; exact e) h1
/-- the table at P -/
abbrev TabG (H : Hp) (P : Addr) : Prop := GxR.TabG H P
def Tabs (T : List Addr) (H : Hp) : Prop := ∀ P ∈ T, TabG H P
theorem Same.tabG {H H' : Hp} {P : Addr} (s : Same H H') (t : TabG H P) : TabG H' P := by
  obtain ⟨ps, h, ht⟩ := t
  obtain ⟨m, e, t⟩ := s.tab P ps h
  exact ⟨_, e, t ht⟩
theorem Tabs.same {T : List Addr} {H H' : Hp} (t : Tabs T H) (s : Same H H') : Tabs T H' := fun P hP => s.tabG (t P hP)
/-- a table grows -/
theorem same_tab {H : Hp} {P : Addr} {ps more : Array Value} (h : H P = some (.tbl ps)) (t : TriplesOk (ps ++ more).toList) : Same H (upd H P (.tbl (ps ++ more))) := by
  refine ⟨fun b o n e => ?_, fun b qs e => ?_⟩
  · have hb : b ≠ P := fun z => by
      rw [z, h] at e
      exact n.nt ps (Option.some.inj e).symm
    rw [upd_ne hb]
    exact e
  · by_cases hb : b = P
    · subst hb
      rw [h] at e
      cases e
      exact ⟨more, upd_same, fun _ => t⟩
    · exact ⟨#[], by rw [upd_ne hb, Array.append_empty]; exact e, by rw [Array.append_empty]; exact _root_.id⟩
end DR
namespace DR
open PySem PySem.Spec PyProof.Rows L2 GenW
/-- the context of a generator expression's frame -/
abbrev gcx (X : Cx) (N : List Str) (A : Around) (s : Shared) (H : Hp) (cenv : Env) (I : Addr) (pn : List (Addr × Obj)) : Cx :=
  { X with A := A, N := N, s_0 := s, H_0 := H, env := cenv, outer := X.stack, stack := cenv :: X.stack, ex := [I], fn := fun _ => false, calm := true, pn := pn, xe := fun _ _ => False }
/-- its own scope: N its targets, then what it captures of the def, from the slots js -/
structure GSc (X : Cx) (scope : Scope) (N : List Str) (tn : Nat) (js : List Nat) : Prop where
  kind : scope.kind = .function
  co : scope.isCoroutine = false
  cell : ∀ y ∈ scope.names, y.2 ≠ .cell
  dot : scope.names.lookup (".0" : Str) = some NameKind.local
  uniq : ∀ y ∈ scope.names, scope.names.lookup y.1 = some y.2
  free : ∀ y ∈ scope.names, y.2 = .free → X.env.kindOf y.1 = some .cell ∨ X.env.kindOf y.1 = some .free
  len : N.length = tn + js.length
  caps : ∀ (i : Nat) (j : Nat), js[i]? = some j → ∃ x, N[tn + i]? = some x ∧ X.N[j]? = some x ∧ scope.names.lookup x = some .free
def gst (tn : Nat) (js : List Nat) (σ : L2.St) : L2.St := List.replicate tn none ++ js.map fun j => (σ[j]?).join
section
variable {X : Cx} {pins : List (Addr × Obj)} {σ : L2.St} {H : Hp} {s : Shared} {scope : Scope} {N : List Str} {tn : Nat} {js : List Nat}
theorem gst_at {i : Nat} {v : V} (h : (gst tn js σ)[i]? = some (some v)) : ∃ k j, i = tn + k ∧ js[k]? = some j ∧ σ[j]? = some (some v) := by
  unfold gst at h
  by_cases hi : i < tn
  · rw [List.getElem?_append_left (by simpa using hi), List.getElem?_replicate, if_pos hi] at h
    cases h
  · rw [List.getElem?_append_right (by simpa using hi), List.length_replicate, List.getElem?_map] at h
    cases e : js[i - tn]? with
    | none => rw [e] at h; cases h
    | some j =>
      rw [e] at h
      have h' : (σ[j]?).join = some v := Option.some.inj h
      refine ⟨i - tn, j, by omega, e, ?_⟩
      cases q : σ[j]? with
      | none => rw [q] at h'; cases h'
      | some w => rw [q] at h'; exact congrArg some h'
theorem clo_look (uniq : ∀ y ∈ scope.names, scope.names.lookup y.1 = some y.2) {cells : List (Str × Addr)} {x : Str} {c : Addr} (h : (cloFrom cells scope.names []).lookup x = some c) : scope.names.lookup x = some .free ∧ c = (cells.lookup x).getD 0 := by
  rcases cloFrom_mem (PySem.mem_of_lookup h) with hm | ⟨h1, h2⟩
  · cases hm
  · exact ⟨uniq _ h1, h2⟩
theorem clo_free {cells : List (Str × Addr)} {x : Str} (uniq : ∀ y ∈ scope.names, scope.names.lookup y.1 = some y.2) (h : scope.names.lookup x = some .free) : (cloFrom cells scope.names []).lookup x = some ((cells.lookup x).getD 0) := by
  obtain ⟨c', e'⟩ := mem_lookup (cloFrom_has (cells := cells) (acc := []) (PySem.mem_of_lookup h))
  rw [e', (clo_look uniq e').2]
/-- the frame of a generator expression, at a turn's start -/
theorem inv_gen {A' : Around} {C Ia : Addr} {code : Value} {s4 s'' : Shared} {H2 : Hp} {pn pins' : List (Addr × Obj)} (S : GSc X scope N tn js) (J : Inv X pins σ H2 s4) (hI : FpOk X pins H2 Ia) (hIl : Ia < s4.heap.objs.size) (hC : C = s4.heap.objs.size)
    (hA : A'.handled = none) (hf : A'.frames = some (genEnv scope (cloFrom X.env.cells scope.names []) C code builtinsNs X.env :: X.stack)) {m : Str → Option Value} (hns : s''.heap.Ns C m)
    (kp : ∀ b o, s4.heap.get? b = some o → s''.heap.get? b = some o) (hos : s''.os = s4.os) (hb : AllBare s''.gens)
    (hp : ∀ p ∈ pn ++ pins', s''.heap.get? p.1 = some p.2 ∧ C < p.1 ∧ ∀ v, p.2.data ≠ .cell v) :
    Inv (gcx X N A' s4 H2 (genEnv scope (cloFrom X.env.cells scope.names []) C code builtinsNs X.env) Ia pn) pins' (gst tn js σ) H2 s'' := by
  subst hC
  have has : ∀ x, scope.names.lookup x = some .free → ∃ c, X.env.cells.lookup x = some c := fun x h => by
    rcases S.free _ (PySem.mem_of_lookup h) rfl with k | k
    · exact J.ok.has _ (.inl k)
    · exact J.ok.has _ (.inr k)
  have cm : ∀ {y c}, (cloFrom X.env.cells scope.names []).lookup y = some c → X.env.cells.lookup y = some c ∧ c < s4.heap.objs.size := fun {y c} hm => by
    obtain ⟨h1, rfl⟩ := clo_look S.uniq hm
    obtain ⟨c, hc⟩ := has _ h1
    rw [hc]
    obtain ⟨w, z⟩ := J.cell _ _ hc
    exact ⟨rfl, z.lt⟩
  have okB : (gcx X N A' s4 H2 (genEnv scope (cloFrom X.env.cells scope.names []) s4.heap.objs.size code builtinsNs X.env) Ia pn).Ok := by
    refine ⟨J.ok.mod, S.kind, J.ok.glob, rfl, Nat.le_refl _, fun x y c e1 e2 => J.ok.inj x y c (cm e1).1 (cm e2).1, fun y hy => ?_, fun y c z e => ?_, fun _ => hA, hf, .inr ⟨rfl, rfl⟩, fun b hb => ⟨?_, fun y c e z => ?_⟩, J.bs, Nat.le_trans J.ok.bsz J.sz,
      fun b o e hb => ?_, fun b hb z => ?_, J.stack, J.stkFree⟩
    · rcases hy with hy | hy
      · exact absurd rfl (S.cell _ (PySem.mem_of_lookup (show scope.names.lookup y = some .cell from hy)))
      · exact ⟨_, clo_free S.uniq hy⟩
    · cases z
    · rw [List.mem_singleton.mp hb]
      exact Nat.ne_of_lt hIl
    · rw [List.mem_singleton.mp hb] at z
      exact hI.2.2.2.2.1 y c (cm e).1 z
    · rw [List.mem_singleton.mp hb] at e
      rcases hI.2.2.2.1 with z | z
      · exact J.ok.noex Ia o e z
      · exact absurd (Nat.lt_of_lt_of_le (Heap.lt_size e) (Nat.le_trans J.ok.bsz z)) (Nat.lt_irrefl _)
    · rw [List.mem_singleton.mp hb] at z
      rcases List.mem_cons.mp (J.stkSub Ia z) with z | z
      · exact hI.2.1 z
      · exact hI.2.2.1 z
  refine ⟨okB, hos, hb, Un.kept kp, ⟨m, hns, fun i y av e1 e2 e3 => ?_⟩, fun y c e => ?_, ?_, fun y c e => J.freeC y c (cm e).1, fun p hp' => ?_, J.hok.kept kp, ?_⟩
  · obtain ⟨k, j, rfl, hj, hσ⟩ := gst_at e2
    obtain ⟨x, h1, h2, h3⟩ := S.caps k j hj
    have e1' : N[tn + k]? = some y := e1
    rw [h1] at e1'
    have exy : x = y := Option.some.inj e1'
    subst exy
    obtain ⟨mm, _, hl⟩ := J.loc
    have hvis : Vis X.env.scope x := (S.free _ (PySem.mem_of_lookup h3) rfl).elim (fun k => .inr (.inl k)) (fun k => .inr (.inr k))
    obtain ⟨w, r, q⟩ := hl j x av h2 hσ hvis
    refine ⟨w, r, .inr ⟨.inr h3, ?_⟩⟩
    obtain ⟨c, hc⟩ := has _ h3
    have hcl : (cloFrom X.env.cells scope.names []).lookup x = some c := by
      rw [clo_free S.uniq h3, hc]
      rfl
    rcases q with ⟨kk, _⟩ | ⟨_, c', e', z⟩
    · rcases S.free _ (PySem.mem_of_lookup h3) rfl with k' | k' <;> rw [show X.env.kindOf x = _ from k'] at kk <;> cases kk
    · rw [hc] at e'
      cases e'
      exact ⟨c, hcl, z.keeps kp⟩
  · obtain ⟨w, z⟩ := J.cell y c (cm e).1
    exact ⟨w, z.keeps kp⟩
  · exact J.hok.fresh (Nat.le_refl _)
  · obtain ⟨h1, h2, h3⟩ := hp p hp'
    have hlt : s4.heap.objs.size ≤ p.1 := Nat.le_of_lt h2
    refine ⟨h1, J.hok.fresh hlt, Nat.ne_of_gt h2, fun z => ?_, h3⟩
    have z' : p.1 ∈ frs X.stack := z
    rcases List.mem_cons.mp (J.stkSub _ z') with e | e
    · have := J.lt
      rw [← e] at this
      exact absurd (Nat.lt_of_lt_of_le this hlt) (Nat.lt_irrefl _)
    · exact J.nofs hlt e
  · show (gst tn js σ).length = N.length
    unfold gst
    rw [List.length_append, List.length_replicate, List.length_map, S.len]
/-- what stands behind the making of a generator -/
structure GMk (X : Cx) (pins : List (Addr × Obj)) (σ : L2.St) (N : List Str) (tn : Nat) (js : List Nat) (scope : Scope) (elt tg iter : Expr) (gpos : Pos) (a : Addr) (H2 : Hp) (s4 s5 : Shared) (code : Value) (Ia ga : Addr) (gn : Nat) (go : Obj) : Prop where
  inv : Inv X pins σ H2 s4
  fp : FpOk X pins H2 Ia
  ne : a ≠ Ia
  it : Ia < s4.heap.objs.size
  lt : s4.heap.objs.size < ga
  sz : s5.heap.objs.size = ga + 1
  cls : go.cls = .type "generator"
  data : ∃ nm qn, go.data = .fields #[.int gn 0, nm, qn]
  slots : go.slots = #[]
  gen : s5.heap.get? ga = some go
  itr : s5.heap.IsListIter Ia a 0
  fresh : s5.gens[gn]? = some (.fresh (.compStart (.GeneratorExp elt [⟨tg, iter, [], 0⟩] scope gpos) 0 (.ref Ia) .none (genEnv scope (cloFrom X.env.cells scope.names []) s4.heap.objs.size code builtinsNs X.env)))
  bare : AllBare s5.gens
  os : s5.os = s4.os
  keep : ∀ b o, s4.heap.get? b = some o → s5.heap.get? b = some o
  ns : ∃ m, s5.heap.Ns s4.heap.objs.size m
theorem ge_make {c P : Addr} {elt tg iter : Expr} {gpos : Pos} {te : TE} {k : Nat} {Q' : Value → Shared → Prop} {R : Addr → List V → Hp → Prop} (hr : Room k X.A) (TB : GxR.TabB X.base X.mg c P) (hcode : X.env.code = .ref c) (S : GSc X scope N tn js) (hi : PE X iter te)
    (hs : ∀ v, genFold iter X.env v = pure v) (I : Inv X pins σ H s) (h : te σ H fun v H1 => ∃ a xs, v = .ref a ∧ SqL X.K H1 a xs ∧ TabG H1 P ∧ R a xs H1)
    (hQ : ∀ a xs H1 H2 s4 s5 code Ia ga gn go, R a xs H1 → SqL X.K H1 a xs → Same H1 H2 → GMk X pins σ N tn js scope elt tg iter gpos a H2 s4 s5 code Ia ga gn go → Q' (.ref ga) s5) :
    wpAny (model X.prog X.w) X.A (eval (.GeneratorExp elt [⟨tg, iter, [], 0⟩] scope gpos) X.env) Q' X.xe s := by
  have hfree : ∀ y ∈ scope.names, y.2 = .free → ∃ c, X.env.cells.lookup y.1 = some c := fun y hy e => by
    rcases S.free y hy e with k | k
    · exact I.ok.has _ (.inl k)
    · exact I.ok.has _ (.inr k)
  refine wpAny_GeneratorExp_make S.co (closure_ok hfree) S.cell S.dot S.kind (by have := hr.dp; omega) ?_ hs
  refine thn (hi.run pins s σ H _ I h) fun xv s1 ⟨v, H1, I1, r1, q1⟩ => ?_
  obtain ⟨a, xs, rfl, hS, ⟨ps, hP, ht⟩, q1⟩ := q1
  obtain rfl : xv = Value.ref a := r1
  obtain ⟨its, rv, hl, hz⟩ := I1.list hS
  refine wpAny_pyIter_list hl.isList ?_
  generalize ho : ({ cls := .type "list_iterator", data := .fields #[.ref a, .int 0 0] } : Obj) = o
  have hitr : (s1.heap.push o).IsListIter s1.heap.objs.size a 0 := by
    subst ho
    exact ⟨_, Heap.get?_push_size _ rfl, rfl, rfl⟩
  have halt : a < s1.heap.objs.size := by
    obtain ⟨_, e, _⟩ := _root_.id hl.isList
    exact Heap.lt_size e
  have hPs : s1.heap.get? P = some { cls := .none, data := .fields ps } := I1.hok P _ hP
  have hPlt : P < s1.heap.objs.size := Heap.lt_size hPs
  have hP2 : (s1.heap.push o).get? P = some { cls := .none, data := .fields ps } := Heap.get?_push_of_some _ hPs
  have cd : PySem.W.CodeHd (s1.heap.push o) c P := TB.code.keeps fun b u e => Heap.get?_push_of_some _ (I1.bk b u e)
  have lim2 : (s1.heap.push o).NoLimit := I1.nolimit.push o
  have fI : ∀ {H' : Hp}, H' s1.heap.objs.size = none → FpOk X pins H' s1.heap.objs.size := fun {H'} hn => I1.fpOk (Nat.le_refl _) hn
  have cont : ∀ (code : Value) (h3 : Heap) (tk : Nat) (H2 : Hp), Inv X pins σ H2 { s1 with heap := h3, toks := tk } → Same H1 H2 → H2 s1.heap.objs.size = none → (∀ b o', b ≠ P → (s1.heap.push o).get? b = some o' → h3.get? b = some o') → (s1.heap.push o).objs.size ≤ h3.objs.size →
      wpAny (model X.prog X.w) X.A (builtinsFor X.env.globals X.env.builtins) (fun bi s₄ => ∀ h', h'.Ns s₄.heap.objs.size (fun y => if y = ".0" then some (.ref s1.heap.objs.size) else none) → Heap.SameBut s₄.heap.objs.size (s₄.heap.push { cls := .type "frame", data := .dict #[] }) h' →
          Q' (.ref h'.objs.size) { s₄ with
            gens := s₄.gens.push (.fresh (.compStart (.GeneratorExp elt [⟨tg, iter, [], 0⟩] scope gpos) 0 (.ref s1.heap.objs.size) .none (genEnv scope (cloFrom X.env.cells scope.names []) s₄.heap.objs.size code bi X.env))),
            toks := s₄.toks + 1 + 1 + 1,
            heap := h'.push { cls := .type "generator", data := .fields #[.int s₄.gens.size 0, .str "<genexpr>" (s₄.toks + 1), .str (X.env.qual ++ "<genexpr>") (s₄.toks + 1 + 1)] } }) X.xe { s1 with heap := h3, toks := tk } := by
    intro code h3 tk H2 J sm nI kp hsz
    obtain ⟨bm, ob, e1, e2, e3, e4, e5, e6, e7, e8⟩ := TB.bm
    refine wpAny_builtinsFor (m := X.mg) (by rw [I1.ok.glob]; exact J.mod.glob.keeps J.bk) e1 e2 (J.bk _ _ e5) e6 e7 e8 ?_
    intro h' hn' hs'
    have sz2 : (s1.heap.push o).objs.size = s1.heap.objs.size + 1 := Heap.size_push ..
    have hIlt : s1.heap.objs.size < h3.objs.size := by omega
    have hsz' : h'.objs.size = h3.objs.size + 1 := by rw [hs'.1, Heap.size_push]
    have keep' : ∀ b o', h3.get? b = some o' → h'.get? b = some o' := fun b o' e => hs'.extBut b o' (Nat.ne_of_lt (Heap.lt_size e)) (Heap.get?_push_of_some _ e)
    have hIP : s1.heap.objs.size ≠ P := Nat.ne_of_gt hPlt
    refine hQ a xs H1 H2 { s1 with heap := h3, toks := tk } _ code s1.heap.objs.size h'.objs.size s1.gens.size _ q1 hS sm ⟨J, fI nI, Nat.ne_of_lt halt, hIlt, ?_, ?_, rfl, ⟨_, _, rfl⟩, rfl, Heap.get?_push_size _ rfl, ?_, Array.getElem?_push_size .., I1.bare.push rfl, rfl, fun b o' e => Heap.get?_push_of_some _ (keep' b o' e), ⟨_, hn'.push _⟩⟩
    · show h3.objs.size < h'.objs.size
      omega
    · rw [Heap.size_push]
    · obtain ⟨oi, e, r⟩ := hitr
      exact ⟨oi, Heap.get?_push_of_some _ (keep' _ _ (kp _ _ hIP e)), r⟩
  refine ⟨lim2, ?_⟩
  have J0 : Inv X pins σ H1 { s1 with heap := s1.heap.push o } := inv_heap I1 fun b u e => Heap.get?_push_of_some _ e
  have nI0 : H1 s1.heap.objs.size = none := I1.hok.fresh (Nat.le_refl _)
  cases hf : codeAmong gpos ps.toList with
  | none =>
    refine wpAny_genexprCodeX hcode (cd.code hP2 ht) (cd.tab hP2) hf fun c' h' tk hx hge hlt hco' _ htab' _ => ?_
    obtain ⟨o1, vs, f1, tf, fl, tg', inF, tx, tt, op, _, _, _, _, _, _, _, _, _, htr, _⟩ := hco'
    have J := GxR.inv_tab (t' := tk) (g' := s1.gens) (d' := s1.drawn) (h' := h') (more := #[rawInt gpos.line, rawInt gpos.col, .ref c']) J0 hP (fun b u hb e => hx b u hb e) htab'.2 I1.bare
    refine cont (.ref c') h' tk _ J (same_tab hP htr) ?_ (fun b u hb e => hx b u hb e) (Nat.le_trans hge (Nat.le_of_lt hlt))
    rw [upd_ne (Nat.ne_of_gt hPlt)]
    exact nI0
  | some cv =>
    refine wpAny_genexprCode_hit hcode (cd.code hP2 ht) hf ?_
    exact cont cv (s1.heap.push o) s1.toks H1 J0 (Same.refl _) nI0 (fun _ _ _ e => e) (Nat.le_refl _)
end
end DR
namespace DR
open PySem PySem.Spec PyProof.Rows L2 GenW
/-- all(elt for target in e), e a list -/
def tAllG (K : PySem.W.Frag) (P : Addr) (tn : Nat) (js : List Nat) (te : TE) (g : TG) (tel : TE) : TE := fun σ H Q => te σ H fun v H1 => ∃ a xs, v = .ref a ∧ SqL K H1 a xs ∧ TabG H1 P ∧ ∀ H2, Same H1 H2 → ∃ W : List V → L2.St → Hp → Prop,
  W [] (gst tn js σ) H2 ∧ (∀ ys σ' H', W ys σ' H' → SqL K H' a xs) ∧
  (∀ ys x σ' H', xs[ys.length]? = some x → W ys σ' H' → g x σ' H' fun σ1 H3 => tel σ1 H3 fun y H4 => ∃ b, y = .bl b ∧ if b = true then W (ys ++ [y]) σ1 H4 else Q (.bl false) H4) ∧
  ∀ ys σ' H', ys.length = xs.length → W ys σ' H' → Q (.bl true) H'
/-- sum(elt for target in e), e a list; vals: the numbers -/
def tSumG (K : PySem.W.Frag) (P : Addr) (tn : Nat) (js : List Nat) (te : TE) (g : TG) (tel : TE) : TE := fun σ H Q => te σ H fun v H1 => ∃ a xs, v = .ref a ∧ SqL K H1 a xs ∧ TabG H1 P ∧ ∀ H2, Same H1 H2 → ∃ (W : List V → L2.St → Hp → Prop) (vals : List Int),
  vals.length = xs.length ∧ W [] (gst tn js σ) H2 ∧ (∀ ys σ' H', W ys σ' H' → SqL K H' a xs) ∧ (∀ ys σ' H', W ys σ' H' → ys = (vals.take ys.length).map V.int) ∧
  (∀ ys x σ' H', xs[ys.length]? = some x → W ys σ' H' → g x σ' H' fun σ1 H3 => tel σ1 H3 fun y H4 => W (ys ++ [y]) σ1 H4) ∧
  ∀ ys σ' H', ys.length = xs.length → W ys σ' H' → Q (.int vals.sum) H'
section
variable {X : Cx} {scope : Scope} {N : List Str} {tn : Nat} {js : List Nat} {c P : Addr} {elt tg iter : Expr} {p pos gpos : Pos} {te tel : TE} {g : TG} {k : Nat}
abbrev geA (X : Cx) (elt tg iter : Expr) (scope : Scope) (gpos : Pos) (Ia : Addr) (cenv : Env) : Around := X.A.in1.in1.over (geC elt tg iter scope gpos Ia cenv) []
theorem geA_room {Ia : Addr} {cenv : Env} (hr : Room (k + 1) X.A) : Room k (geA X elt tg iter scope gpos Ia cenv) := by
  refine ⟨hr.hd, ?_, ?_⟩
  · have := hr.dp
    show X.A.depth + 0 + 1 + 3 * k + 5 < _
    omega
  · have := hr.un
    show X.A.units + 1 + 1 + 0 + 3 + 16 * k + 200 < _
    omega
theorem geA_frames {Ia : Addr} {cenv : Env} (h : X.A.frames = some X.stack) : (geA X elt tg iter scope gpos Ia cenv).frames = some (cenv :: X.stack) := by
  show pushEnvs [cenv] (pushEnvs [] X.A.frames) = _
  rw [h]
  rfl
theorem un_gen {pins pins' : List (Addr × Obj)} {σ σ' : L2.St} {A' : Around} {s4 s' : Shared} {H2 H' : Hp} {cenv : Env} {Ia : Addr} {pn : List (Addr × Obj)} (J : Inv X pins σ H2 s4) (hI : FpOk X pins H2 Ia) (J' : Inv (gcx X N A' s4 H2 cenv Ia pn) pins' σ' H' s') : Inv X pins σ H' s' := by
  refine J.call' (ch := [Ia]) J'.os J'.base J'.hok J'.bare fun b hb => ?_
  rw [List.mem_singleton.mp hb]
  exact ⟨hI.2.2.2.1, hI.2.1, hI.2.2.2.2.1, hI.2.2.2.2.2⟩
theorem pe_allG (hr : Room (k + 1) X.A) (hg : Gl X "all") (hm : X.mg "all" = none) (TB : GxR.TabB X.base X.mg c P) (hcode : X.env.code = .ref c) (S : GSc X scope N tn js) (hi : PE X iter te)
    (hgt : ∀ (A' : Around) (s4 : Shared) (H2 : Hp) (cl : List (Str × Addr)) (C : Addr) (code : Value) (Ia : Addr) (pn : List (Addr × Obj)), PG (gcx X N A' s4 H2 (genEnv scope cl C code builtinsNs X.env) Ia pn) tg g)
    (hel : ∀ (A' : Around) (s4 : Shared) (H2 : Hp) (cl : List (Str × Addr)) (C : Addr) (code : Value) (Ia : Addr) (pn : List (Addr × Obj)), Room k A' → PE (gcx X N A' s4 H2 (genEnv scope cl C code builtinsNs X.env) Ia pn) elt tel)
    (hs : ∀ v, genFold iter X.env v = pure v := by intro _; rfl) (hb : bootBuiltins "all" = some (.builtin "all") := by decide +kernel)
    (he : starEach [.GeneratorExp elt [⟨tg, iter, [], 0⟩] scope gpos] X.env = (false, eval (.GeneratorExp elt [⟨tg, iter, [], 0⟩] scope gpos) X.env) :: starEach [] X.env := by rfl) :
    PE X (.Call (.Name "all" p) [.GeneratorExp elt [⟨tg, iter, [], 0⟩] scope gpos] [] pos) (tAllG X.K P tn js te g tel) := by
  refine ⟨fun pins s σ H Q I h => ?_⟩
  refine wpAny_Call_Name_kw (ld_blt I hg hm hb ?_)
  refine PyProof.Rows.callWith_builtin1 ?_ he (by rfl)
  rw [he]
  show wpAny _ _ (spliced ((false, eval (.GeneratorExp elt [⟨tg, iter, [], 0⟩] scope gpos) X.env) :: backTo pos (starEach [] X.env))) _ _ s
  refine Calls.spliced_cons (ge_make hr TB hcode S hi hs I h fun a xs H1 H2 s4 s5 code Ia ga gn go hR hS sm G => ?_)
  refine Calls.spliced_nil ?_
  obtain ⟨W, w0, wl, wt, we⟩ := hR H2 sm
  obtain ⟨nm, qn, hgd⟩ := G.data
  obtain ⟨m, hns⟩ := G.ns
  have hfr := G.fresh
  generalize hce : genEnv scope (cloFrom X.env.cells scope.names []) s4.heap.objs.size code builtinsNs X.env = cenv at *
  have hA : (geA X elt tg iter scope gpos Ia cenv).handled = none := hr.hd
  have J5 : Inv (gcx X N (geA X elt tg iter scope gpos Ia cenv) s4 H2 cenv Ia [(ga, go)]) [] (gst tn js σ) H2 s5 := by
    have := inv_gen (code := code) (s'' := s5) (pn := [(ga, go)]) (pins' := []) S G.inv G.fp G.it rfl hA (by rw [hce]; exact geA_frames I.ok.frames) hns G.keep G.os G.bare fun p hp => by
      have hp : p = (ga, go) := by simpa using hp
      subst hp
      exact ⟨G.gen, G.lt, fun v q => by rw [hgd] at q; cases q⟩
    rw [hce] at this
    exact this
  have hpn : GePn (gcx X N (geA X elt tg iter scope gpos Ia cenv) s4 H2 cenv Ia [(ga, go)]) ga gn := ⟨go, nm, qn, List.mem_singleton.mpr rfl, G.cls, hgd, G.slots⟩
  have hga : ga ≠ Ia := Nat.ne_of_gt (Nat.lt_trans G.it G.lt)
  have hgen : s5.heap.IsGen ga gn := hpn.isGen J5
  have hsg : ∀ (pn : List (Addr × Obj)), PG (gcx X N (geA X elt tg iter scope gpos Ia cenv) s4 H2 cenv Ia pn) tg g := fun pn => by rw [← hce]; exact hgt _ _ _ _ _ _ _ _
  have hse : ∀ (pn : List (Addr × Obj)), PE (gcx X N (geA X elt tg iter scope gpos Ia cenv) s4 H2 cenv Ia pn) elt tel := fun pn => by
    have := hel (geA X elt tg iter scope gpos Ia cenv) s4 H2 (cloFrom X.env.cells scope.names []) s4.heap.objs.size code Ia pn (geA_room hr)
    rw [hce] at this
    exact this
  have hsc : cenv.scope = scope := by rw [← hce]; rfl
  refine call_function_tree F.kind_all F.plain_all F.entry_all (F.args_all1 _) ?_
  unfold Builtin.«all»
  refine wpAny_bind (m := oneArg "all" _) (wpAny_pure ?_)
  refine wpAny_bind (wpAny_pyIter_gen hgen ?_)
  refine wpAny_pure ⟨plainId_quiet F.plain_all_loop _, ?_⟩
  refine all_ge (Y := gcx X N (geA X elt tg iter scope gpos Ia cenv) s4 H2 cenv Ia [(ga, go)]) (I := Ia) (a := a) (W := W) (N := xs.length) (QF := fun _ H' => Q (.bl false) H') hr.hd (by have := hr.dp; show X.A.depth < _; omega) hpn
    (fun σ' H' s' J' q => ⟨.bl false, H', un_gen G.inv G.fp J', rfl, q⟩) (fun ys σ' H' s' hl J' w => ⟨.bl true, H', un_gen G.inv G.fp J', rfl, we ys σ' H' hl w⟩) _ [] (gst tn js σ) H2 s5 rfl ⟨⟨J5, G.fp.1, G.itr⟩, w0, _, hfr, fun s'' h'' w'' => ⟨rfl, ?_⟩⟩
  refine seg_geStart (Y := gcx X N (geA X elt tg iter scope gpos Ia cenv) s4 H2 cenv Ia [(ga, go)]) (ys := []) h''.2.2 ?_
  exact seg_ge (Y := gcx X N (geA X elt tg iter scope gpos Ia cenv) s4 H2 cenv Ia [(ga, go)]) (So := none) (W := W) rfl hA (by rw [hsc]; exact S.co) (List.mem_singleton.mpr rfl) G.ne (fun p hp => by rw [List.mem_singleton.mp hp]; exact hga) (fun z => by cases z) (fun _ _ z => z) (hsg _) (hse _) wl wt
    xs.length [] s'' s'' (gst tn js σ) H2 rfl h'' w''
theorem pe_sumG (hr : Room (k + 1) X.A) (hg : Gl X "sum") (hm : X.mg "sum" = none) (TB : GxR.TabB X.base X.mg c P) (hcode : X.env.code = .ref c) (S : GSc X scope N tn js) (hi : PE X iter te)
    (hgt : ∀ (A' : Around) (s4 : Shared) (H2 : Hp) (cl : List (Str × Addr)) (C : Addr) (code : Value) (Ia : Addr) (pn : List (Addr × Obj)), PG (gcx X N A' s4 H2 (genEnv scope cl C code builtinsNs X.env) Ia pn) tg g)
    (hel : ∀ (A' : Around) (s4 : Shared) (H2 : Hp) (cl : List (Str × Addr)) (C : Addr) (code : Value) (Ia : Addr) (pn : List (Addr × Obj)), Room k A' → PE (gcx X N A' s4 H2 (genEnv scope cl C code builtinsNs X.env) Ia pn) elt tel)
    (hs : ∀ v, genFold iter X.env v = pure v := by intro _; rfl) (hb : bootBuiltins "sum" = some (.builtin "sum") := by decide +kernel)
    (he : starEach [.GeneratorExp elt [⟨tg, iter, [], 0⟩] scope gpos] X.env = (false, eval (.GeneratorExp elt [⟨tg, iter, [], 0⟩] scope gpos) X.env) :: starEach [] X.env := by rfl) :
    PE X (.Call (.Name "sum" p) [.GeneratorExp elt [⟨tg, iter, [], 0⟩] scope gpos] [] pos) (tSumG X.K P tn js te g tel) := by
  refine ⟨fun pins s σ H Q I h => ?_⟩
  refine wpAny_Call_Name_kw (ld_blt I hg hm hb ?_)
  refine PyProof.Rows.callWith_builtin1 ?_ he (by rfl)
  rw [he]
  show wpAny _ _ (spliced ((false, eval (.GeneratorExp elt [⟨tg, iter, [], 0⟩] scope gpos) X.env) :: backTo pos (starEach [] X.env))) _ _ s
  refine Calls.spliced_cons (ge_make hr TB hcode S hi hs I h fun a xs H1 H2 s4 s5 code Ia ga gn go hR hS sm G => ?_)
  refine Calls.spliced_nil ?_
  obtain ⟨W, vals, hvl, w0, wl, wv, wt, we⟩ := hR H2 sm
  obtain ⟨nm, qn, hgd⟩ := G.data
  obtain ⟨m, hns⟩ := G.ns
  have hfr := G.fresh
  generalize hce : genEnv scope (cloFrom X.env.cells scope.names []) s4.heap.objs.size code builtinsNs X.env = cenv at *
  have hA : (geA X elt tg iter scope gpos Ia cenv).handled = none := hr.hd
  have hsz5 := G.sz
  have hlt5 := G.lt
  have hgen0 : s5.heap.IsGen ga gn := ⟨go, nm, qn, G.gen, G.cls, hgd, G.slots⟩
  have hpn : GePn (gcx X N (geA X elt tg iter scope gpos Ia cenv) s4 H2 cenv Ia [(ga, go)]) ga gn := ⟨go, nm, qn, List.mem_singleton.mpr rfl, G.cls, hgd, G.slots⟩
  have hga : ga ≠ Ia := Nat.ne_of_gt (Nat.lt_trans G.it G.lt)
  have hIlt := G.it
  have hg5 : ga < s5.heap.objs.size := by rw [hsz5]; exact Nat.lt_succ_self _
  have h45 : s4.heap.objs.size < s5.heap.objs.size := Nat.lt_trans hlt5 hg5
  have hSI : s5.heap.objs.size ≠ Ia := Nat.ne_of_gt (Nat.lt_trans hIlt h45)
  have hsg : ∀ (pn : List (Addr × Obj)), PG (gcx X N (geA X elt tg iter scope gpos Ia cenv) s4 H2 cenv Ia pn) tg g := fun pn => by rw [← hce]; exact hgt _ _ _ _ _ _ _ _
  have hse : ∀ (pn : List (Addr × Obj)), PE (gcx X N (geA X elt tg iter scope gpos Ia cenv) s4 H2 cenv Ia pn) elt tel := fun pn => by
    have := hel (geA X elt tg iter scope gpos Ia cenv) s4 H2 (cloFrom X.env.cells scope.names []) s4.heap.objs.size code Ia pn (geA_room hr)
    rw [hce] at this
    exact this
  have hsc : cenv.scope = scope := by rw [← hce]; rfl
  have hloc : cenv.locals = s4.heap.objs.size := by rw [← hce]; rfl
  have hcells : cenv.cells = cloFrom X.env.cells scope.names [] := by rw [← hce]; rfl
  refine call_function_tree F.kind_sum F.plain_sum F.entry_sum (F.args_sum1 _) ?_
  unfold Builtin.«sum»
  simp only [List.length_cons, List.length_nil]
  rw [if_neg (by decide)]
  refine wpAny_bind (wpAny_of_eq (show Builtin.Builtins.bindParams "sum" ["start"] 0 { } = pure [none] from rfl) ?_)
  refine wpAny_bind (wpAny_pyIter_gen hgen0 ?_)
  refine wpAny_bind (wpAny_mkInt ?_)
  refine wpAny_bind (wpAny_pure ?_)
  simp only [List.forIn_cons, List.forIn_nil]
  refine wpAny_bind (wpAny_bind (wpAny_bind (wpAny_isInstance (T := "int") (b := false) (typeIs_int _ _ _) PySem.sub_int_str ?_)))
  simp only [Bool.false_eq_true, if_false]
  refine wpAny_pure (wpAny_bind (wpAny_bind (wpAny_isInstance (T := "int") (b := false) (typeIs_int _ _ _) PySem.sub_int_bytes ?_)))
  simp only [Bool.false_eq_true, if_false]
  refine wpAny_pure (wpAny_bind (wpAny_bind (wpAny_isInstance (T := "int") (b := false) (typeIs_int _ _ _) PySem.sub_int_bytearray ?_)))
  simp only [Bool.false_eq_true, if_false]
  refine wpAny_pure (wpAny_pure ?_)
  refine wpAny_bind (wpAny_newObj_type ?_)
  refine wpAny_pure ⟨plainId_quiet F.plain_sum_loop _, ?_⟩
  have kp6 : ∀ (o : Obj) b ob, s5.heap.get? b = some ob → (s5.heap.push o).get? b = some ob := fun o b ob e => Heap.get?_push_of_some _ e
  generalize hlo : ({ cls := .type "list", data := .seq #[.int 0 s5.toks] } : Obj) = lo
  generalize htk : s5.toks + 1 = tk
  have hget : (s5.heap.push lo).get? s5.heap.objs.size = some lo := by
    subst hlo
    exact Heap.get?_push_size _ rfl
  have hlod : ∀ v, lo.data ≠ .cell v := fun v q => by rw [← hlo] at q; cases q
  have J5 : Inv (gcx X N (geA X elt tg iter scope gpos Ia cenv) s4 H2 cenv Ia [(ga, go)]) [(s5.heap.objs.size, lo)] (gst tn js σ) H2 { s5 with heap := s5.heap.push lo, toks := tk } := by
    have := inv_gen (code := code) (s'' := { s5 with heap := s5.heap.push lo, toks := tk }) (pn := [(ga, go)]) (pins' := [(s5.heap.objs.size, lo)]) S G.inv G.fp G.it rfl hA (by rw [hce]; exact geA_frames I.ok.frames) (hns.push lo) (fun b ob e => kp6 lo b ob (G.keep b ob e)) G.os G.bare fun p hp => by
      have hp : p = (ga, go) ∨ p = (s5.heap.objs.size, lo) := by simpa using hp
      rcases hp with rfl | rfl
      · exact ⟨kp6 lo _ _ G.gen, G.lt, fun v q => by rw [hgd] at q; cases q⟩
      · exact ⟨hget, h45, hlod⟩
    rw [hce] at this
    exact this
  have hAp : Apart (gcx X N (geA X elt tg iter scope gpos Ia cenv) s4 H2 cenv Ia [(ga, go)]) s5.heap.objs.size := by
    refine ⟨Nat.le_of_lt h45, by show s5.heap.objs.size ≠ cenv.locals; rw [hloc]; exact Nat.ne_of_gt h45, fun x cc e z => ?_⟩
    obtain ⟨w, q⟩ := J5.cell x cc e
    have e' : cenv.cells.lookup x = some cc := e
    rw [hcells] at e'
    obtain ⟨f1, f2⟩ := clo_look S.uniq e'
    obtain ⟨cc', hcc⟩ : ∃ cc', X.env.cells.lookup x = some cc' := by
      rcases S.free _ (PySem.mem_of_lookup f1) rfl with k | k
      · exact I.ok.has _ (.inl k)
      · exact I.ok.has _ (.inr k)
    rw [hcc] at f2
    obtain ⟨w', q'⟩ := G.inv.cell _ _ hcc
    have := q'.lt
    have f3 : cc = cc' := f2
    have h5 : s5.heap.objs.size < s4.heap.objs.size := by rw [← z, f3]; exact q'.lt
    exact Nat.lt_irrefl _ (Nat.lt_trans h45 h5)
  have hS6 : (s5.heap.push lo).get? s5.heap.objs.size = some { cls := .type "list", dict := none, data := .seq #[.int (vals.take ([] : List V).length).sum s5.toks] 0, slots := #[] } := by
    rw [hget, ← hlo]
    simp
  have eP : pinsOf (some s5.heap.objs.size) { s5 with heap := s5.heap.push lo, toks := tk } = [(s5.heap.objs.size, lo)] := pinsOf_some hget
  have hit6 : (s5.heap.push lo).IsListIter Ia a 0 := by
    obtain ⟨oi, e, r⟩ := G.itr
    exact ⟨oi, kp6 lo _ _ e, r⟩
  refine codeAny_mono (sum_ge (Y := gcx X N (geA X elt tg iter scope gpos Ia cenv) s4 H2 cenv Ia [(ga, go)]) (I := Ia) (a := a) (W := W) (N := xs.length) (S := s5.heap.objs.size) (vals := vals)
    (R := fun r s' => match r with | .ok (.ret v) => EP X pins σ Q v s' | _ => False) hvl hr.hd (by have := hr.dp; show X.A.depth < _; omega) hpn
    (fun p hp => by rw [List.mem_singleton.mp hp]; exact Nat.ne_of_lt hg5) hAp hSI wv
    (fun ys σ' H' s' t hl J' w => ⟨.int (vals.take xs.length).sum, H', un_gen G.inv G.fp J', ⟨t, rfl⟩, by rw [List.take_of_length_le (by omega)]; exact we ys σ' H' hl w⟩)
    _ [] (gst tn js σ) H2 { s5 with heap := s5.heap.push lo, toks := tk } s5.toks 0 0 rfl (.inl rfl) hS6 ⟨⟨by rw [eP]; exact J5, G.fp.1, hit6⟩, w0, _, hfr, fun s'' h'' w'' => ⟨rfl, ?_⟩⟩) fun r s' hq => ?_
  · refine seg_geStart (Y := gcx X N (geA X elt tg iter scope gpos Ia cenv) s4 H2 cenv Ia [(ga, go)]) (ys := []) h''.2.2 ?_
    exact seg_ge (Y := gcx X N (geA X elt tg iter scope gpos Ia cenv) s4 H2 cenv Ia [(ga, go)]) (So := some s5.heap.objs.size) (W := W) rfl hA (by rw [hsc]; exact S.co) (List.mem_singleton.mpr rfl) G.ne (fun p hp => by rw [List.mem_singleton.mp hp]; exact hga) (fun z => hSI (Option.some.inj z)) (fun _ _ z => z) (hsg _) (hse _) wl wt
      xs.length [] s'' s'' (gst tn js σ) H2 rfl h'' w''
  · cases r with
    | error e => exact hq.elim
    | ok fl =>
      cases fl with
      | ret v => exact hq
      | next => exact hq.elim
      | brk => exact hq.elim
      | cont => exact hq.elim
end
end DR
namespace DR
open PySem PySem.Spec PyProof.Rows L2
/-! ### rules of our own -/
section
variable {X : Cx}
/-- xs[i] of a list, by values, for xs[i] op= e -/
def rGetL (K : PySem.W.Frag) : V → V → Hp → VK → Prop := fun o i H Q => ∃ p xs k v, o = .ref p ∧ i = .int k ∧ SqL K H p xs ∧ 0 ≤ k ∧ atI xs k = some v ∧ Q v H
theorem get_list : PGet X (rGetL X.K) := by
  intro pins s σ H x y v u Q I rx ry h
  obtain ⟨p, xs, i, z, rfl, rfl, hq, h0, he, q⟩ := h
  cases rx
  obtain ⟨t, rfl⟩ := ry
  obtain ⟨its, r, pl, hz⟩ := I.list hq
  obtain ⟨j, h1, h2, h3, h4, h5⟩ := atI_get he
  obtain ⟨w, ew, rw'⟩ := r.get h2
  have hn := line63
  have hj : i.toNat = j := by
    rw [seqIndex_of h0 h5] at h1
    exact Option.some.inj h1
  exact wpAny_getItem_list pl.isList h0 (by omega) (by rw [hj]; simpa using ew) ⟨z, H, I, rw', q⟩
/-- a op1 b op2 c op3 d -/
def tChain3 (r r' r'' : R2) (ta tb tc td : TE) : TE := fun σ H Q => ta σ H fun x H1 => tb σ H1 fun y H2 => r x y H2 fun z H3 => ∃ k, z = .bl k ∧
  (if k = true then tc σ H3 fun y' H4 => r' y y' H4 fun z' H5 => ∃ k', z' = .bl k' ∧ (if k' = true then td σ H5 fun w' H6 => r'' y' w' H6 Q else Q (.bl false) H5) else Q (.bl false) H3)
theorem pe_chain3 {op op' op'' : CmpOp} {r r' r'' : R2} {a b c d : Expr} {ta tb tc td : TE} {pos : Pos} (ho : OpR X (compareOp op) r) (ho' : OpR X (compareOp op') r') (ho'' : OpR X (compareOp op'') r'') (ha : PE X a ta) (hb : PE X b tb) (hc : PE X c tc) (hd : PE X d td)
    (hm : lastMarks [op, op', op''] [b, c, d] = false := by with_unfolding_all rfl) : PE X (.Compare a [op, op', op''] [b, c, d] pos) (tChain3 r r' r'' ta tb tc td) := by
  refine ⟨fun pins s σ H Q I h => ?_⟩
  refine Compare_chain (thn (ha.run pins s σ H _ I h) fun v s1 ⟨x, H1, I1, r1, q1⟩ => chain_link (thn (hb.run pins s1 σ H1 _ I1 q1) fun u s2 ⟨y, H2, I2, r2, q2⟩ =>
    thn (ho pins s2 σ H2 x y v u _ I2 r1 r2 q2) fun d' s3 ⟨z, H3, I3, r3, k, e, q3⟩ => ?_)) hm
  subst e
  cases r3
  refine wpAny_truthy_bool ?_
  cases k with
  | false => exact ite_ff ⟨.bl false, H3, I3, rfl, q3⟩
  | true =>
    refine ite_tt (chain_link (thn (hc.run pins s3 σ H3 _ I3 q3) fun w' s4 ⟨y', H4, I4, r4, q4⟩ => thn (ho' pins s4 σ H4 y y' u w' _ I4 r2 r4 q4) fun d2 s5 ⟨z', H5, I5, r5, k', e', q5⟩ => ?_))
    subst e'
    cases r5
    refine wpAny_truthy_bool ?_
    cases k' with
    | false => exact ite_ff ⟨.bl false, H5, I5, rfl, q5⟩
    | true => exact ite_tt (chain_last (thn (hd.run pins s5 σ H5 _ I5 q5) fun w2 s6 ⟨z2, H6, I6, r6, q6⟩ => ho'' pins s6 σ H6 y' z2 w' w2 Q I6 r4 r6 q6))
theorem pt_chain3 {op op' op'' : CmpOp} {r r' r'' : R2} {a b c d : Expr} {ta tb tc td : TE} {pos : Pos} (ho : OpR X (compareOp op) r) (ho' : OpR X (compareOp op') r') (ho'' : OpR X (compareOp op'') r'') (ha : PE X a ta) (hb : PE X b tb) (hc : PE X c tc) (hd : PE X d td)
    (hm : lastMarks [op, op', op''] [b, c, d] = false := by with_unfolding_all rfl) : PT X (.Compare a [op, op', op''] [b, c, d] pos) (tTest (tChain3 r r' r'' ta tb tc td)) := by
  refine ⟨fun pins s σ H Q I h => ?_⟩
  refine isTrue_chain (thn (ha.run pins s σ H _ I h) fun v s1 ⟨x, H1, I1, r1, q1⟩ => test_link (thn (hb.run pins s1 σ H1 _ I1 q1) fun u s2 ⟨y, H2, I2, r2, q2⟩ =>
    thn (ho pins s2 σ H2 x y v u _ I2 r1 r2 q2) fun d' s3 ⟨z, H3, I3, r3, k, e, q3⟩ => ?_)) hm
  subst e
  cases r3
  refine wpAny_truthy_bool ?_
  cases k with
  | false =>
    obtain ⟨k', e', q'⟩ := q3
    cases e'
    exact ite_ff ⟨H3, I3, q'⟩
  | true =>
    refine ite_tt (test_link (thn (hc.run pins s3 σ H3 _ I3 q3) fun w' s4 ⟨y', H4, I4, r4, q4⟩ => thn (ho' pins s4 σ H4 y y' u w' _ I4 r2 r4 q4) fun d2 s5 ⟨z', H5, I5, r5, k', e', q5⟩ => ?_))
    subst e'
    cases r5
    refine wpAny_truthy_bool ?_
    cases k' with
    | false =>
      obtain ⟨k2, e2, q'⟩ := q5
      cases e2
      exact ite_ff ⟨H5, I5, q'⟩
    | true =>
      refine ite_tt (test_last (thn (hd.run pins s5 σ H5 _ I5 q5) fun w2 s6 ⟨z2, H6, I6, r6, q6⟩ => thn (ho'' pins s6 σ H6 y' z2 w' w2 _ I6 r4 r6 q6) fun d3 s7 ⟨z3, H7, I7, r7, k3, e3, q7⟩ => ?_))
      subst e3
      cases r7
      exact wpAny_truthy_bool ⟨H7, I7, q7⟩
/-- * of two ints of not too many bits together -/
def CMulB (i j : Int) : Prop := IntMulOk i j
theorem op_mulB : OpR X (binaryOp .Mult) (rI CMulB fun i j => .int (i * j)) := opI fun _ _ _ _ _ _ _ hc q => mul_int q hc
end
/-! ### heaps -/
theorem same_new {H : Hp} {p : Addr} {o : HO} (h : H p = none) : Same H (upd H p o) := .of fun b x e => by
  rw [upd_ne (ne_of_none e h)]
  exact e
/-- an object that H does not know may change -/
theorem smut {H H' : Hp} {p : Addr} {o : HO} (e : Same H H') (h : H p = none) : Same H (upd H' p o) := by
  refine ⟨fun a u n ha => ?_, fun a ps ha => ?_⟩
  · rw [upd_ne (ne_of_none ha h)]
    exact e.keep a u n ha
  · rw [upd_ne (ne_of_none ha h)]
    exact e.tab a ps ha
theorem stup {K : PySem.W.Frag} {H H' : Hp} {a : Addr} {xs : List V} (e : Same H H') (h : SqT K H a xs) : SqT K H' a xs := by
  rcases h with (h | ⟨o, h⟩) | h
  · exact .inl (.inl (e _ _ h))
  · exact .inl (.inr ⟨o, e _ _ h⟩)
  · exact .inr h
theorem line_of {n : Nat} (h : n ≤ 100000) : n ≤ sizeLine := Nat.le_trans h (by decide)
theorem line_lt {n : Nat} (h : n < 100000) : n < sizeLine := Nat.lt_of_lt_of_le h (by decide)
theorem map_at {ns : List Int} {i : Nat} {x : V} (h : (ns.map V.int)[i]? = some x) : ∃ z, ns[i]? = some z ∧ x = .int z := by
  rw [List.getElem?_map] at h
  cases e : ns[i]? with
  | none => rw [e] at h; cases h
  | some z =>
    rw [e] at h
    exact ⟨z, rfl, (Option.some.inj h).symm⟩
theorem ref_at {as : List Addr} {i : Nat} {x : V} (h : (as.map V.ref)[i]? = some x) : ∃ z, as[i]? = some z ∧ x = .ref z := by
  rw [List.getElem?_map] at h
  cases e : as[i]? with
  | none => rw [e] at h; cases h
  | some z =>
    rw [e] at h
    exact ⟨z, rfl, (Option.some.inj h).symm⟩
theorem at_map {α : Type} {f : α → V} {xs : List α} {i : Nat} {x : α} (h : xs[i]? = some x) : (xs.map f)[i]? = some (f x) := by
  rw [List.getElem?_map, h]; rfl
theorem at_lt {α : Type} {xs : List α} {i : Nat} {x : α} (h : xs[i]? = some x) : i < xs.length := (List.getElem?_eq_some_iff.mp h).1
theorem cut_nat (xs : List V) (k : Nat) : cutV xs none (some (k : Int)) = xs.take k := by
  unfold cutV
  rw [HT.sIx_none, HT.sIx_nat, List.drop_zero, Nat.sub_zero]
  by_cases h : k ≤ xs.length
  · rw [Nat.min_eq_left h]
  · rw [Nat.min_eq_right (by omega), List.take_length, List.take_of_length_le (by omega)]
theorem cut_from (xs : List V) (k : Nat) : cutV xs (some (k : Int)) none = xs.drop k := by
  unfold cutV
  rw [HT.sIx_none, HT.sIx_nat]
  by_cases h : k ≤ xs.length
  · rw [Nat.min_eq_left h, List.take_of_length_le (by rw [List.length_drop]; omega)]
  · rw [Nat.min_eq_right (by omega), Nat.sub_self, List.take_zero, List.drop_of_length_le (by omega)]
theorem cut_last (xs : List V) (v : V) : cutV (xs ++ [v]) none (some (-1)) = xs := by
  unfold cutV
  rw [HT.sIx_none, List.drop_zero, Nat.sub_zero]
  have e : HT.sIx (xs ++ [v]).length (xs ++ [v]).length (some (-1)) = xs.length := by
    show (if (-1 : Int) < 0 then ((-1 : Int) + ((xs ++ [v]).length : Int)).toNat else min (-1 : Int).toNat (xs ++ [v]).length) = xs.length
    rw [if_pos (by decide), List.length_append, List.length_singleton]
    omega
  rw [e, List.take_left]
theorem ixN_nat {n k : Nat} (h : k < n) : ixN n (k : Int) = some k := by
  unfold ixN
  rw [if_pos (by omega), if_pos (by omega), Int.toNat_natCast]
theorem small_of {x : Int} {n : Nat} (h0 : 0 ≤ x) (h : x < 2 ^ n) : Builtin.Int.intBits x ≤ n := by
  rw [intBits_le_iff]
  have e : ((2 ^ n : Nat) : Int) = (2 : Int) ^ n := Int.natCast_pow 2 n
  omega
/-! ### deeds in the heap -/
def tri (d : Deed) : List V := [.int d.1, .int d.2.1, .int d.2.2]
structure DsAt (H : Hp) (as : List Addr) (ds : List Deed) : Prop where
  len : as.length = ds.length
  at_ : ∀ (j : Nat) (a : Addr), as[j]? = some a → ∃ d, ds[j]? = some d ∧ H a = some (.tup (tri d))
section
variable {H H' : Hp} {as bs : List Addr} {ds es : List Deed} {a : Addr} {d : Deed}
theorem DsAt.same (h : DsAt H as ds) (s : Same H H') : DsAt H' as ds := ⟨h.len, fun j a e => let ⟨d, h1, h2⟩ := h.at_ j a e; ⟨d, h1, s _ _ h2⟩⟩
theorem DsAt.nil : DsAt H [] [] := ⟨rfl, fun j a e => by simp at e⟩
theorem DsAt.append (h : DsAt H as ds) (k : DsAt H bs es) : DsAt H (as ++ bs) (ds ++ es) := by
  refine ⟨by rw [List.length_append, List.length_append, h.len, k.len], fun j a e => ?_⟩
  by_cases hj : j < as.length
  · rw [List.getElem?_append_left hj] at e
    obtain ⟨d, h1, h2⟩ := h.at_ j a e
    exact ⟨d, by rw [List.getElem?_append_left (by rw [← h.len]; exact hj)]; exact h1, h2⟩
  · rw [List.getElem?_append_right (by omega)] at e
    obtain ⟨d, h1, h2⟩ := k.at_ _ a e
    exact ⟨d, by rw [List.getElem?_append_right (by rw [← h.len]; omega), ← h.len]; exact h1, h2⟩
theorem DsAt.one (e : H a = some (.tup (tri d))) : DsAt H [a] [d] := ⟨rfl, fun j b h => by
  match j, h with
  | 0, h =>
    have : a = b := Option.some.inj h
    subst this
    exact ⟨d, rfl, e⟩
  | j + 1, h => simp at h⟩
theorem DsAt.snoc (h : DsAt H as ds) (e : H a = some (.tup (tri d))) : DsAt H (as ++ [a]) (ds ++ [d]) := h.append (DsAt.one e)
theorem DsAt.upd {c : Addr} {xs : List V} {o : HO} (h : DsAt H as ds) (hc : H c = some (.lst xs)) : DsAt (upd H c o) as ds := ⟨h.len, fun j b e => let ⟨d, h1, h2⟩ := h.at_ j b e; ⟨d, h1, by rw [upd_ne (ne_of h2 hc (by intro q; cases q))]; exact h2⟩⟩
theorem DsAt.take (h : DsAt H as ds) (n : Nat) : DsAt H (as.take n) (ds.take n) := by
  refine ⟨by rw [List.length_take, List.length_take, h.len], fun j a e => ?_⟩
  rw [List.getElem?_take] at e
  by_cases hj : j < n
  · rw [if_pos hj] at e
    obtain ⟨d, h1, h2⟩ := h.at_ j a e
    exact ⟨d, by rw [List.getElem?_take, if_pos hj]; exact h1, h2⟩
  · rw [if_neg hj] at e; cases e
theorem DsAt.drop (h : DsAt H as ds) (n : Nat) : DsAt H (as.drop n) (ds.drop n) := by
  refine ⟨by rw [List.length_drop, List.length_drop, h.len], fun j a e => ?_⟩
  rw [List.getElem?_drop] at e
  obtain ⟨d, h1, h2⟩ := h.at_ _ a e
  exact ⟨d, by rw [List.getElem?_drop]; exact h1, h2⟩
end
theorem DeedsOk.take {n : Int} {ds : List Deed} (h : DeedsOk n ds) (k : Nat) : DeedsOk n (ds.take k) := fun d hd => h d (List.mem_of_mem_take hd)
theorem DeedsOk.drop {n : Int} {ds : List Deed} (h : DeedsOk n ds) (k : Nat) : DeedsOk n (ds.drop k) := fun d hd => h d (List.mem_of_mem_drop hd)
/-! ### data, for == and != -/
def dI (ns : List Int) : PyData := .list (ns.map .int)
def dD (d : Deed) : PyData := .tuple [.int d.1, .int d.2.1, .int d.2.2]
def dDs (ds : List Deed) : PyData := .list (ds.map dD)
theorem dp_ints {K : PySem.W.Frag} {H : Hp} : ∀ ns : List Int, DpAll K H (ns.map V.int) (ns.map PyData.int)
  | [] => .nil
  | x :: r => .cons (.int x) (dp_ints r)
theorem dp_lst {K : PySem.W.Frag} {H : Hp} {a : Addr} {ns : List Int} (h : SqL K H a (ns.map V.int)) : Dp K H (.ref a) (dI ns) := .lst h (dp_ints ns)
theorem dp_dsAll {K : PySem.W.Frag} {H : Hp} : ∀ {as : List Addr} {ds : List Deed}, DsAt H as ds → DpAll K H (as.map V.ref) (ds.map dD)
  | [], [], _ => .nil
  | [], _ :: _, h => nomatch h.len
  | _ :: _, [], h => nomatch h.len
  | a :: r, d :: t, h => by
    obtain ⟨d', e1, e2⟩ := h.at_ 0 a rfl
    have e : d = d' := Option.some.inj e1
    subst e
    exact .cons (.tup (.inl (.inl e2)) (.cons (.int _) (.cons (.int _) (.cons (.int _) .nil)))) (dp_dsAll ⟨Nat.succ.inj h.len, fun j b q => h.at_ (j + 1) b q⟩)
theorem dp_ds {K : PySem.W.Frag} {H : Hp} {p : Addr} {as : List Addr} {ds : List Deed} (h : SqL K H p (as.map V.ref)) (hd : DsAt H as ds) : Dp K H (.ref p) (dDs ds) := .lst h (dp_dsAll hd)
theorem lay_ints : ∀ ns : List Int, PyData.canLayAll0 (ns.map PyData.int) = true
  | [] => by simp only [List.map_nil, PyData.canLayAll0]
  | x :: r => by simp only [List.map_cons, PyData.canLayAll0, PyData.canLay0, lay_ints r, Bool.and_self]
theorem dep_ints : ∀ ns : List Int, PyData.depthAll (ns.map PyData.int) = 0
  | [] => by simp only [List.map_nil, PyData.depthAll]
  | x :: r => by simp only [List.map_cons, PyData.depthAll, PyData.depth, dep_ints r, Nat.max_self]
theorem lay_dI (ns : List Int) : (dI ns).canLay0 = true := by unfold dI; simp only [PyData.canLay0]; exact lay_ints ns
theorem dep_dI (ns : List Int) : (dI ns).depth = 1 := by unfold dI; simp only [PyData.depth, dep_ints]
theorem sh_dI (ns : List Int) : SeqAt.shaped (dI ns) = true := by
  unfold SeqAt.shaped
  rw [lay_dI, dep_dI]; rfl
theorem lay_dDs (ds : List Deed) : (dDs ds).canLay0 = true := by
  unfold dDs
  simp only [PyData.canLay0]
  induction ds with
  | nil => simp only [List.map_nil, PyData.canLayAll0]
  | cons d r ih => simp only [List.map_cons, PyData.canLayAll0, dD, PyData.canLay0, ih, Bool.and_self]
theorem dep_dDs (ds : List Deed) : (dDs ds).depth ≤ 2 := by
  unfold dDs
  simp only [PyData.depth]
  refine Nat.succ_le_succ ?_
  induction ds with
  | nil => simp only [List.map_nil, PyData.depthAll]; omega
  | cons d r ih =>
    simp only [List.map_cons, PyData.depthAll]
    refine Nat.max_le.mpr ⟨?_, ih⟩
    simp only [dD, PyData.depth, PyData.depthAll, Nat.max_self]
    omega
theorem sh_dDs (ds : List Deed) : SeqAt.shaped (dDs ds) = true := by
  unfold SeqAt.shaped
  rw [lay_dDs, decide_eq_true (Nat.le_trans (dep_dDs ds) (by decide))]; rfl
theorem eqvAll_ints : ∀ ns ms : List Int, PyData.eqvAll (ns.map .int) (ms.map .int) = decide (ns = ms)
  | [], [] => by simp only [List.map_nil, PyData.eqvAll, decide_true]
  | [], _ :: _ => by simp [PyData.eqvAll]
  | _ :: _, [] => by simp [PyData.eqvAll]
  | x :: r, y :: t => by
    simp only [List.map_cons, PyData.eqvAll, PyData.eqv]
    rw [eqvAll_ints r t, Bool.beq_eq_decide_eq, ← Bool.decide_and]
    exact decide_eq_decide.mpr (by rw [List.cons.injEq])
theorem eqv_dI (ns ms : List Int) : PyData.eqv (dI ns) (dI ms) = decide (ns = ms) := by
  unfold dI
  simp only [PyData.eqv]
  exact eqvAll_ints ns ms
/-! ### kinds -/
/-- whether a value is a whole number, as is_number says -/
inductive NumB (K : PySem.W.Frag) (H : Hp) : V → Bool → Prop
  | int (i : Int) : NumB K H (.int i) true
  | bl (b : Bool) : NumB K H (.bl b) false
  | non : NumB K H .non false
  | str (x : Str) : NumB K H (.str x) false
  | lst {a : Addr} {xs : List V} (h : SqL K H a xs) : NumB K H (.ref a) false
  | tup {a : Addr} {xs : List V} (h : SqT K H a xs) : NumB K H (.ref a) false
theorem ty_lst {K : PySem.W.Frag} {H : Hp} {a : Addr} {xs : List V} (h : SqL K H a xs) : TyX K H (.ref a) (.type "list") := by
  rcases h with (h | ⟨o, h⟩) | ⟨o, its, n, hk, hc, _⟩
  · exact .base (.lst h)
  · exact .base (.frz h)
  · exact .kList hk hc
theorem ty_tup {K : PySem.W.Frag} {H : Hp} {a : Addr} {xs : List V} (h : SqT K H a xs) : TyX K H (.ref a) (.type "tuple") := by
  rcases h with (h | ⟨o, h⟩) | ⟨o, its, n, hk, hc, _⟩
  · exact .base (.tup h)
  · exact .fTuple h
  · exact .kTuple hk hc
/-- the module's names that are still the built-in ones -/
structure Blt (mg : Str → Option Value) : Prop where
  isi : mg "isinstance" = none
  int : mg "int" = none
  bool : mg "bool" = none
  list : mg "list" = none
  tuple : mg "tuple" = none
  len : mg "len" = none
  enumerate : mg "enumerate" = none
  sum : mg "sum" = none
  range : mg "range" = none
  all : mg "all" = none
/-! ### defs and calls in short -/
/-- the def x of the text stands where its name says -/
def Def (K : PySem.W.Frag) (mg : Str → Option Value) (x : Str) (st : Stmt) (ps : List Str) : Prop := ∃ f fd, Fun K x x st f fd ∧ mg x = some (.ref f) ∧ Binds K fd ps []
/-- x keeps the promise sp, and nothing is raised -/
def Callee (P : Program) (w : World) (K : PySem.W.Frag) (mg : Str → Option Value) (base : Heap) (k : Nat) (x : Str) (ps : List Str) (sp : Sp) : Prop :=
  ∃ f fd, mg x = some (.ref f) ∧ PySem.W.keepIn K (.ref f) = true ∧ Binds K fd ps [] ∧ (∃ oc od osl, K.lookup f = some ⟨oc, od, .func fd, osl⟩) ∧ FnOk P w K mg base CX0 k f fd ps sp
section
variable {P : Program} {w : World} {K : PySem.W.Frag} {mg : Str → Option Value} {base : Heap}
theorem Def.ok {x : Str} {st : Stmt} {N ps : List Str} {k : Nat} {sp : Sp} (D : Def K mg x st ps) (S : FnScope N ps (defScope st)) (len : ∀ vs H Q E, sp vs H Q E → vs.length = ps.length)
    (hbody : ∀ (f : Addr) (cdv : Value) (A : Around) (outer : List Env) (s : Shared) (H : Hp) (vs : List V) (Q : VK) (E : XK), Room k (A.deeper (envOfC x (defScope st) s.heap.objs.size f cdv)) → sp vs H Q E →
      ∃ t, PSs (cxOf CX0 P w K mg base N x (defScope st) f cdv A outer s H E).nox (defBody st) t ∧ t { nx := fun _ H' => Q .non H', rt := Q } (start N vs) H) : Callee P w K mg base (k + 1) x ps sp := by
  obtain ⟨f, fd, F, g, b⟩ := D
  have lk : ∃ oc od osl, K.lookup f = some ⟨oc, od, .func fd, osl⟩ := by
    obtain ⟨oc, od, kV, doc, pm, an, cdv, ct, osl, rfl, lk, _⟩ := F.ex
    exact ⟨oc, od, osl, lk⟩
  exact ⟨f, fd, g, F.kp, b, lk, F.ok S len fun cdv A outer s H vs Q E hr h => hbody f cdv A outer s H vs Q E hr h⟩
theorem Callee.imp {x : Str} {ps : List Str} {k : Nat} {sp sp' : Sp} (C : Callee P w K mg base k x ps sp) (h : ∀ vs H Q E, sp' vs H Q E → sp vs H Q E) : Callee P w K mg base k x ps sp' := by
  obtain ⟨f, fd, h1, h2, h3, lk, h4⟩ := C
  exact ⟨f, fd, h1, h2, h3, lk, h4.imp h⟩
end
theorem pe_c {X : Cx} {k : Nat} {x : Str} {ps : List Str} {sp : Sp} {p pos : Pos} {e : Expr} {es : List Expr} {t : TA} (C : Callee X.prog X.w X.K X.mg X.base k x ps sp) (hr : Room k X.A) (hg : Gl X x) (ha : PA X (e :: es) t)
    (hdb : (x == ("__debug__" : Str)) = false := by decide) (he : starEach (e :: es) X.env = (false, eval e X.env) :: starEach es X.env := by rfl) (hpl : (backTo pos (starEach es X.env)).any (·.1) = false := by rfl) :
    PE X (.Call (.Name x p) (e :: es) [] pos) (tCall sp [] E0 t) := by
  obtain ⟨f, fd, h1, h2, h3, _, h4⟩ := C
  exact pe_call h4 hr hg h1 h2 h3 .nil pass0 ha hdb he hpl
/-- from the facts that the top leaves -/
theorem def_mk {K : PySem.W.Frag} {h : Heap} {mg : Str → Option Value} {x : Str} {st : Stmt} {ps : List Str} {f : Addr} {oc : Value} {od an : Option Addr} {osl : Array (Option Value)} {kV doc pm cdv ct : Value} (X : K.In h) (G : h.Ns mainGlobals mg)
    (a : PySem.W.nsIn K mainGlobals x = some (some (.ref f))) (l : K.lookup f = some ⟨oc, od, .func (PySem.W.fnOf x x (defArgs st) (defBody st) (defScope st) .none kV doc pm an cdv ct), osl⟩)
    (c : PySem.W.codeIn K cdv x = true) (k : PySem.W.keepIn K (.ref f) = true)
    (hb : ∀ (kV doc pm : Value) (an : Option Addr) (cdv ct : Value) (us : List Value), us.length = ps.length → bindArgs (PySem.W.fnOf x x (defArgs st) (defBody st) (defScope st) .none kV doc pm an cdv ct) ⟨us, []⟩ = pure (ps.zip us)) : Def K mg x st ps :=
  ⟨f, _, fun_mk l c k, PySem.W.mg_of X G a, (fun_mk l c k).binds hb⟩
/-- the promise of a def that stands at f -/
theorem Callee.at {P : Program} {w : World} {K : PySem.W.Frag} {mg : Str → Option Value} {base : Heap} {k : Nat} {x : Str} {ps : List Str} {sp : Sp} {f : Addr} {fd : FuncData} {oc : Value} {od : Option Addr} {osl : Array (Option Value)}
    (C : Callee P w K mg base k x ps sp) (g : mg x = some (.ref f)) (l : K.lookup f = some ⟨oc, od, .func fd, osl⟩) : FnOk P w K mg base CX0 k f fd ps sp := by
  obtain ⟨f', fd', h1, _, _, ⟨oc', od', osl', lk⟩, h4⟩ := C
  rw [g] at h1
  cases h1
  rw [l] at lk
  cases lk
  exact h4
theorem isi_ty {K : PySem.W.Frag} {H : Hp} {Q : VK} {x : V} {T C : String} {r : Bool} (ty : TyX K H x (.type T)) (h : kitB T C = some r) (q : Q (.bl r) H) : rIsi K [x, .ty C] H Q := ⟨x, .ty C, _, _, r, rfl, .ty C, ty, kit_ty h, q⟩
end DR
namespace DR
open PySem PySem.Spec PyProof.Rows L2
structure Blt2 (mg : Str → Option Value) : Prop where
  zip : mg "zip" = none
  min : mg "min" = none
  abs : mg "abs" = none
structure Blt3 (mg : Str → Option Value) : Prop where
  sorted : mg "sorted" = none
/-! ### the scope of a generator expression, by a look -/
def gscB (sc scope : Scope) (XN N : List Str) (tn : Nat) (js : List Nat) : Bool :=
  decide (scope.kind = .function) && (!scope.isCoroutine && (scope.names.all (fun y => decide (y.2 ≠ .cell)) && (decide (scope.names.lookup (".0" : Str) = some NameKind.local) && (scope.names.all (fun y => decide (scope.names.lookup y.1 = some y.2)) &&
    (scope.names.all (fun y => decide (y.2 ≠ .free) || decide (sc.names.lookup y.1 = some .cell)) && (decide (N.length = tn + js.length) && (List.range js.length).all fun i => match js[i]?, N[tn + i]? with
      | some j, some x => decide (XN[j]? = some x) && decide (scope.names.lookup x = some .free)
      | _, _ => false))))))
theorem gsc_by {X : Cx} {sc scope : Scope} {XN N : List Str} {tn : Nat} {js : List Nat} (hs : X.env.scope = sc) (hN : X.N = XN) (h : gscB sc scope XN N tn js = true) : GSc X scope N tn js := by
  subst hN
  unfold gscB at h
  simp only [Bool.and_eq_true, decide_eq_true_eq, List.all_eq_true, Bool.or_eq_true, Bool.not_eq_true', List.mem_range] at h
  obtain ⟨h1, h2, h3, h4, h5, h6, h7, h8⟩ := h
  refine ⟨h1, h2, h3, h4, h5, fun y hy e => ?_, h7, fun i j hj => ?_⟩
  · rcases h6 y hy with z | z
    · exact absurd e z
    · exact .inl (by unfold Env.kindOf; rw [hs]; exact z)
  · have hi := (List.getElem?_eq_some_iff.mp hj).1
    have q := h8 i hi
    rw [hj] at q
    cases e : N[tn + i]? with
    | none => rw [e] at q; cases q
    | some x =>
      rw [e] at q
      simp only [Bool.and_eq_true, decide_eq_true_eq] at q
      exact ⟨x, rfl, q.1, q.2⟩
/-! ### a def with its code object told -/
def DefT (K : PySem.W.Frag) (mg : Str → Option Value) (x : Str) (st : Stmt) (ps : List Str) (c : Addr) : Prop :=
  ∃ (f : Addr) (oc : Value) (od : Option Addr) (kV doc pm : Value) (an : Option Addr) (ct : Value) (osl : Array (Option Value)), K.lookup f = some ⟨oc, od, .func (PySem.W.fnOf x x (defArgs st) (defBody st) (defScope st) .none kV doc pm an (.ref c) ct), osl⟩ ∧
    PySem.W.codeIn K (.ref c) x = true ∧ PySem.W.keepIn K (.ref f) = true ∧ mg x = some (.ref f) ∧ Binds K (PySem.W.fnOf x x (defArgs st) (defBody st) (defScope st) .none kV doc pm an (.ref c) ct) ps []
section
variable {P : Program} {w : World} {K : PySem.W.Frag} {mg : Str → Option Value} {base : Heap}
theorem DefT.ok {x : Str} {st : Stmt} {N ps : List Str} {k : Nat} {sp : Sp} {c : Addr} (D : DefT K mg x st ps c) (S : FnScope N ps (defScope st)) (len : ∀ vs H Q E, sp vs H Q E → vs.length = ps.length)
    (hbody : ∀ (f : Addr) (A : Around) (outer : List Env) (s : Shared) (H : Hp) (vs : List V) (Q : VK) (E : XK), Room k (A.deeper (envOfC x (defScope st) s.heap.objs.size f (.ref c))) → sp vs H Q E →
      ∃ t, PSs (cxOf CX0 P w K mg base N x (defScope st) f (.ref c) A outer s H E).nox (defBody st) t ∧ t { nx := fun _ H' => Q .non H', rt := Q } (start N vs) H) : Callee P w K mg base (k + 1) x ps sp := by
  obtain ⟨f, oc, od, kV, doc, pm, an, ct, osl, lk, hcd, hk, g, b⟩ := D
  refine ⟨f, _, g, hk, b, ⟨oc, od, osl, lk⟩, fn_of lk hcd S len fun A outer s H vs Q E hr hsp => ?_⟩
  obtain ⟨t, h, q⟩ := hbody f A outer s H vs Q E hr hsp
  exact ⟨t, h.nox, q⟩
theorem defT_mk {h : Heap} {x : Str} {st : Stmt} {ps : List Str} {f c : Addr} {oc : Value} {od an : Option Addr} {osl : Array (Option Value)} {kV doc pm ct : Value} (X : K.In h) (G : h.Ns mainGlobals mg)
    (a : PySem.W.nsIn K mainGlobals x = some (some (.ref f))) (l : K.lookup f = some ⟨oc, od, .func (PySem.W.fnOf x x (defArgs st) (defBody st) (defScope st) .none kV doc pm an (.ref c) ct), osl⟩)
    (hc : PySem.W.codeIn K (.ref c) x = true) (k : PySem.W.keepIn K (.ref f) = true)
    (hb : ∀ (kV doc pm : Value) (an : Option Addr) (cdv ct : Value) (us : List Value), us.length = ps.length → bindArgs (PySem.W.fnOf x x (defArgs st) (defBody st) (defScope st) .none kV doc pm an cdv ct) ⟨us, []⟩ = pure (ps.zip us)) : DefT K mg x st ps c :=
  ⟨f, oc, od, kV, doc, pm, an, ct, osl, l, hc, k, PySem.W.mg_of X G a, .all (hb kV doc pm an _ ct)⟩
end
theorem NumB.same {K : PySem.W.Frag} {H H' : Hp} {x : V} {b : Bool} (h : NumB K H x b) (s : Same H H') : NumB K H' x b := by
  cases h with
  | int i => exact .int i
  | bl b => exact .bl b
  | non => exact .non
  | str z => exact .str z
  | lst h => exact .lst (s.seq h)
  | tup h => exact .tup (stup s h)
/-- the list of what was so far, in a generator expression over few slots -/
theorem all_take {bs : List Bool} {i : Nat} {b : Bool} (h : bs[i]? = some b) : (bs.take (i + 1)).all _root_.id = ((bs.take i).all _root_.id && b) := by
  rw [List.take_add_one, h]
  simp
end DR
namespace DR
open PySem PySem.Spec PyProof.Rows L2
/-- the end of a law's row: of each def that is asked for, where its code object's table lies, empty -/
theorem walk_ofD {l : PySem.W.OpenLaw} {n k : Nat} {q : Program} {loose : List Str} {XP : (Str → Option Value) → Heap → Prop} {YP : World → Heap → Prop} {d : DefRec} {K : Params → PySem.W.Frag} {CX : World → CXT} {x : Str}
    (hn : l.most = some n) (hn2 : n ≤ sizeLine) (hdf : d.params.defaults = []) (hr : Room k callerA) (hY : ∀ (w : World) (h : Heap), YP w h → (K w.params).In h)
    (F : ∀ (w : World) (mg : Str → Option Value) (fa : Addr) (h : Heap), YP w h → (K w.params).In h → h.Ns mainGlobals mg → mg d.name = some (.ref fa) →
      (∀ (y : Str) (c P : Addr), ((recsOf q).find? fun e => e.name == y).isSome = true → PySem.W.tabIn (K w.params) y = some (c, P) → PySem.W.CodeHd h c P ∧ h.get? P = some { cls := .none, data := .fields #[] }) → LamX.LawAtS l w (K w.params) (CX w) k n x mg fa h)
    (hCX : ∀ (w : World) (H : Hp) (s : Shared) (e : Value) (s' : Shared), CX w [] H s (fun _ _ _ => False) e s' → False) :
    PySem.W.WalkO q loose XP YP l.row.toRowW d [] (fun f vs => PySem.call f vs) := by
  refine Att.attach_callB hn hdf fun w s₀ s₁ mg mb fa o pm cd doc a vs ns G Y ho hd hcd hmg hobj hints hlen hbits hg => ?_
  have KX := hY w _ Y
  obtain ⟨fd, cs, sp, hT, nT, C, hb, hsp, hF⟩ := F w mg fa _ Y KX G.T.g hmg fun y c P hr ht => by
    obtain ⟨d', hd'⟩ := Option.isSome_iff_exists.mp hr
    exact PySem.W.tab_of G.T KX hd' ht
  exact LamX.law_callTs KX G.T.g G.T.b G.T.builtins G.T.nolimit hg hT nT C G.T.bmain hobj hints (Nat.le_trans hlen hn2) hr hF hb (fun H hH hS => hsp H a ns hlen hbits hH hS) fun H e s' => hCX w H s₁ e s'
theorem tabG_nil {H : Hp} {P : Addr} (h : H P = some (.tbl #[])) : TabG H P := ⟨#[], h, True.intro⟩
theorem tabs_of {H : Hp} {cs : List (Addr × Addr)} (h : ∀ p ∈ cs, H p.2 = some (.tbl #[])) : Tabs (cs.map (·.2)) H := fun P hP => by
  obtain ⟨p, hp, e⟩ := List.mem_map.mp hP
  rw [← e]
  exact tabG_nil (h p hp)
theorem tb_of {base : Heap} {mg : Str → Option Value} {c P : Addr} (t : LamX.TabB base mg c P) : GxR.TabB base mg c P := ⟨t.code, t.bm, t.gP⟩
end DR
namespace DR
open PySem PySem.Spec PyProof.Rows L2
theorem tabIn_of {K : PySem.W.Frag} {x : Str} {f c P : Addr} {oc e : Value} {od dd : Option Addr} {fd : FuncData} {osl sl : Array (Option Value)} {vs : Array Value} (a : PySem.W.nsIn K mainGlobals x = some (some (.ref f))) (l : K.lookup f = some ⟨oc, od, .func fd, osl⟩)
    (hc : fd.code = .ref c) (lc : K.lookup c = some ⟨e, dd, .fields vs, sl⟩) (v : vs[11]? = some (.ref P)) : PySem.W.tabIn K x = some (c, P) := by
  unfold PySem.W.tabIn
  rw [a]
  dsimp only
  rw [l]
  dsimp only
  rw [hc]
  dsimp only
  rw [lc]
  dsimp only
  rw [v]
end DR
namespace DR
open PySem PySem.Spec PyProof.Rows L2
/-! ### the text by places -/
def topS (i : Nat) : Stmt := PySem.Challenge.pw_dialrow_k03_whole_apart.main.body.getD i (.Pass ⟨0, 0, 0, 0⟩)
abbrev sGaps : Stmt := topS 1
abbrev sLesser : Stmt := topS 2
abbrev cDialError : Stmt := topS 4
abbrev cBadSize : Stmt := topS 5
abbrev cBadRow : Stmt := topS 6
abbrev cBadDeeds : Stmt := topS 7
abbrev cUnlike : Stmt := topS 8
abbrev sNum : Stmt := topS 10
abbrev sSize : Stmt := topS 11
abbrev sRow : Stmt := topS 12
abbrev sDeed : Stmt := topS 13
abbrev sAre : Stmt := topS 14
abbrev sDeeds : Stmt := topS 15
abbrev sSteps : Stmt := topS 16
abbrev sTurned : Stmt := topS 17
abbrev cBest : Stmt := topS 19
abbrev cBest_init : Stmt := inClass (topS 19) 0
abbrev cBest_shows : Stmt := inClass (topS 19) 1
abbrev sRows : Stmt := topS 21
abbrev sLeast : Stmt := topS 22
abbrev sOver : Stmt := topS 23
abbrev sBest : Stmt := topS 24
abbrev sApart : Stmt := topS 25
abbrev lSize : Stmt := topS 27
abbrev lRow : Stmt := topS 28
abbrev lWalked : Stmt := topS 29
abbrev sLaw : Stmt := topS 30
end DR
namespace DR
open PySem PySem.Spec PyProof.Rows L2
def spNum (K : PySem.W.Frag) : Sp := fun vs H Q _ => ∃ x b, vs = [x] ∧ NumB K H x b ∧ Q (.bl b) H
def spSize : Sp := fun vs H Q _ => ∃ m : Int, vs = [.int m] ∧ 2 ≤ m ∧ Q .non H
def spRow (K : PySem.W.Frag) : Sp := fun vs H Q _ => ∃ (m : Int) (a : Addr) (ns : List Int), vs = [.int m, .ref a] ∧ SqL K H a (ns.map V.int) ∧ RowOk m ns ∧ Q .non H
section
variable {P : Program} {w : World} {K : PySem.W.Frag} {mg : Str → Option Value} {base : Heap}
theorem scNum : FnScope ["thing"] ["thing"] (defScope sNum) := ⟨rfl, rfl, rfl, by decide +kernel, rfl, by decide +kernel, by decide +kernel⟩
theorem ok_num (D : Def K mg "is_number" sNum ["thing"]) (B : Blt mg) : Callee P w K mg base 1 "is_number" ["thing"] (spNum K) := by
  refine D.ok scNum (fun vs H Q E h => ?_) (fun f cdv A outer s H vs Q E hr h => ?_)
  · obtain ⟨x, b, rfl, _⟩ := h
    rfl
  · obtain ⟨x, b, rfl, hn, q⟩ := h
    refine ⟨_, pss_one (ps_ret (pe_and (pe_callB call_isi (by rfl) B.isi boot_isinstance (pa_cons (pv 0) (pa_cons (pe_bltn (v := .ty "int") (by rfl) B.int PyProof.Rows.boot_int rfl) pa_nil)))
      (pe_one (pe_not (pe_callB call_isi (by rfl) B.isi boot_isinstance (pa_cons (pv 0) (pa_cons (pe_bltn (v := .ty "bool") (by rfl) B.bool PyProof.Rows.boot_bool rfl) pa_nil))))))), ?_⟩
    cases hn with
    | int i => exact ⟨_, rfl, ⟨_, _, _, _, true, rfl, .ty _, (.base (.int i)), kit_ty (by decide +kernel), ⟨true, rfl, iteT ⟨_, rfl, ⟨_, _, _, _, false, rfl, .ty _, (.base (.int i)), kit_ty (by decide +kernel), ⟨false, rfl, q⟩⟩⟩⟩⟩⟩
    | bl b => exact ⟨_, rfl, ⟨_, _, _, _, true, rfl, .ty _, (.base (.bl b)), kit_ty (by decide +kernel), ⟨true, rfl, iteT ⟨_, rfl, ⟨_, _, _, _, true, rfl, .ty _, (.base (.bl b)), kit_ty (by decide +kernel), ⟨true, rfl, q⟩⟩⟩⟩⟩⟩
    | non => exact ⟨_, rfl, ⟨_, _, _, _, false, rfl, .ty _, (.base .non), kit_ty (by decide +kernel), ⟨false, rfl, iteF q⟩⟩⟩
    | str z => exact ⟨_, rfl, ⟨_, _, _, _, false, rfl, .ty _, (.base (.str z)), kit_ty (by decide +kernel), ⟨false, rfl, iteF q⟩⟩⟩
    | lst h => exact ⟨_, rfl, ⟨_, _, _, _, false, rfl, .ty _, (ty_lst h), kit_ty (by decide +kernel), ⟨false, rfl, iteF q⟩⟩⟩
    | tup h => exact ⟨_, rfl, ⟨_, _, _, _, false, rfl, .ty _, (ty_tup h), kit_ty (by decide +kernel), ⟨false, rfl, iteF q⟩⟩⟩
theorem scSize : FnScope ["size"] ["size"] (defScope sSize) := ⟨rfl, rfl, rfl, by decide +kernel, rfl, by decide +kernel, by decide +kernel⟩
theorem ok_size (D : Def K mg "check_size" sSize ["size"]) (GN : Callee P w K mg base 1 "is_number" ["thing"] (spNum K)) : Callee P w K mg base 2 "check_size" ["size"] spSize := by
  refine D.ok scSize (fun vs H Q E h => ?_) (fun f cdv A outer s H vs Q E hr h => ?_)
  · obtain ⟨m, rfl, _⟩ := h
    rfl
  · obtain ⟨m, rfl, hm, q⟩ := h
    refine ⟨_, pss_one (ps_if (PW.pt (pw_or (pt_not (pt_val (pe_c GN hr (by rfl) (pa_cons (pv 0) pa_nil)))) (pw_or1 (pt_cmpR op_lt (pv 0) pe_int (nomark _))))) (pss_one ps_never) pss_nil), ?_⟩
    refine ⟨_, rfl, _, _, rfl, .int m, true, rfl, iteF ⟨_, rfl, m, 2, rfl, rfl, _, rfl, ?_⟩⟩
    rw [decide_eq_false (by omega)]
    exact iteF q
theorem scRow : FnScope ["size", "row", "figure"] ["size", "row"] (defScope sRow) := ⟨rfl, rfl, rfl, by decide +kernel, rfl, by decide +kernel, by decide +kernel⟩
theorem ok_row (D : Def K mg "check_row" sRow ["size", "row"]) (B : Blt mg) (GN : Callee P w K mg base 1 "is_number" ["thing"] (spNum K)) : Callee P w K mg base 2 "check_row" ["size", "row"] (spRow K) := by
  refine D.ok scRow (fun vs H Q E h => ?_) (fun f cdv A outer s H vs Q E hr h => ?_)
  · obtain ⟨m, a, ns, rfl, _⟩ := h
    rfl
  · obtain ⟨m, a, ns, rfl, hS, hR, q⟩ := h
    refine ⟨_, pss_cons (ps_if (pt_not (pt_val (pe_callB call_isi (by rfl) B.isi boot_isinstance (pa_cons (pv 1) (pa_cons (pe_bltn (v := .ty "list") (by rfl) B.list PyProof.Rows.boot_list rfl) pa_nil))))) (pss_one ps_never) pss_nil)
      (pss_one (ps_for PassesOwn.never rfl (pi_list (pv 1)) (pg_name (i := 2) scRow.nd rfl (.inl rfl))
        (pss_one (ps_if (PW.pt (pw_or (pt_not (pt_val (pe_c GN hr (by rfl) (pa_cons (pv 2) pa_nil)))) (pw_or (pt_cmpR op_lt (pv 2) pe_int (nomark _)) (pw_or1 (pt_cmpR op_ge (pv 2) (pv 0) (nomark _)))))) (pss_one ps_never) pss_nil)))), ?_⟩
    refine ⟨_, rfl, ⟨_, _, _, _, true, rfl, .ty _, (ty_lst hS), kit_ty (by decide +kernel), ⟨true, rfl, iteF ?_⟩⟩⟩
    refine ⟨_, rfl, a, rfl, ⟨_, hS⟩, for_list (K := K) (a := a) (xs := ns.map V.int) (fun i σ H2 => (∃ v, σ = [some (.int m), some (.ref a), v]) ∧ H2 = H) ⟨⟨none, rfl⟩, rfl⟩ (fun i σ H2 _ h => by rw [h.2]; exact hS) ?_ ?_⟩
    · rintro i y σ H2 hi ⟨⟨v, rfl⟩, rfl⟩
      obtain ⟨z, hz, rfl⟩ := map_at hi
      obtain ⟨h1, h2⟩ := hR z (List.mem_of_getElem? hz)
      refine ⟨_, rfl, _, _, rfl, .int z, true, rfl, iteF ⟨_, rfl, z, 0, rfl, rfl, _, rfl, ?_⟩⟩
      rw [decide_eq_false (by omega)]
      refine iteF ⟨_, rfl, _, rfl, z, m, rfl, rfl, _, rfl, ?_⟩
      rw [decide_eq_false (by omega)]
      exact iteF ⟨⟨_, rfl⟩, rfl⟩
    · rintro σ H2 ⟨⟨v, rfl⟩, rfl⟩
      exact q
end
end DR
namespace DR
open PySem PySem.Spec PyProof.Rows L2
def deedB (n : Int) (d : Deed) : Bool := decide (0 ≤ d.1) && (decide (d.1 < d.2.1) && (decide (d.2.1 ≤ n) && decide (d.2.2 ≠ 0)))
theorem deedB_ok {n : Int} {d : Deed} (h : DeedOk n d) : deedB n d = true := by
  obtain ⟨h1, h2, h3, h4⟩ := h
  unfold deedB
  rw [decide_eq_true h1, decide_eq_true h2, decide_eq_true h3, decide_eq_true h4]; rfl
section
variable {P : Program} {w : World} {K : PySem.W.Frag} {mg : Str → Option Value} {base : Heap}
theorem scDeed : FnScope ["dials", "thing", "first", "end", "steps"] ["dials", "thing"] (defScope sDeed) := ⟨rfl, rfl, rfl, by decide +kernel, rfl, by decide +kernel, by decide +kernel⟩
end
end DR
namespace DR
open PySem PySem.Spec PyProof.Rows L2
/-- no tuple, of the sorts that are asked with -/
inductive NotT (K : PySem.W.Frag) (H : Hp) : V → Prop
  | int (i : Int) : NotT K H (.int i)
  | bl (b : Bool) : NotT K H (.bl b)
  | non : NotT K H .non
  | str (x : Str) : NotT K H (.str x)
  | lst {a : Addr} {xs : List V} (h : SqL K H a xs) : NotT K H (.ref a)
/-- whether a thing is a deed of n dials -/
inductive DeedB (K : PySem.W.Frag) (H : Hp) (n : Int) : V → Bool → Prop
  | no {y : V} (h : NotT K H y) : DeedB K H n y false
  | len {a : Addr} {xs : List V} (h : SqT K H a xs) (hl : xs.length ≠ 3) : DeedB K H n (.ref a) false
  | sort {a : Addr} {x y z : V} {bx by' bz : Bool} (h : SqT K H a [x, y, z]) (hx : NumB K H x bx) (hy : NumB K H y by') (hz : NumB K H z bz) (hb : (bx && (by' && bz)) = false) : DeedB K H n (.ref a) false
  | deed {a : Addr} {x y z : Int} (h : SqT K H a [.int x, .int y, .int z]) : DeedB K H n (.ref a) (deedB n (x, y, z))
def spDeedB (K : PySem.W.Frag) : Sp := fun vs H Q _ => ∃ (n : Int) (v : V) (b : Bool), vs = [.int n, v] ∧ DeedB K H n v b ∧ Q (.bl b) H
section
variable {P : Program} {w : World} {K : PySem.W.Frag} {mg : Str → Option Value} {base : Heap} {C : Addr}
theorem ok_deedB (D : Def K mg "is_deed" sDeed ["dials", "thing"]) (B : Blt mg) (GN : Callee P w K mg base 1 "is_number" ["thing"] (spNum K)) : Callee P w K mg base 2 "is_deed" ["dials", "thing"] (spDeedB K) := by
  refine D.ok scDeed (fun vs H Q E h => ?_) (fun f cdv A outer s H vs Q E hr h => ?_)
  · obtain ⟨n, v, b, rfl, _⟩ := h
    rfl
  · obtain ⟨n, v, b, rfl, hB, q⟩ := h
    refine ⟨_, pss_cons (ps_if (PW.pt (pw_or (pt_not (pt_val (pe_callB call_isi (by rfl) B.isi boot_isinstance (pa_cons (pv 1) (pa_cons (pe_bltn (v := .ty "tuple") (by rfl) B.tuple PyProof.Rows.boot_tuple rfl) pa_nil)))))
        (pw_or1 (pt_cmpR op_ne (pe_callB call_len_seq (by rfl) B.len PySem.boot_len (pa_cons (pv 1) pa_nil)) pe_int (nomark _))))) (pss_one (ps_ret pe_bl)) pss_nil)
      (pss_cons (ps_asg (pv 1) (pg_tup (by rfl) (pgs_cons (pg_name (i := 2) scDeed.nd rfl (.inl rfl)) (pgs_cons (pg_name (i := 3) scDeed.nd rfl (.inl rfl)) (pgs_cons (pg_name (i := 4) scDeed.nd rfl (.inl rfl)) pgs_nil)))))
      (pss_cons (ps_if (PW.pt (pw_or (pt_not (pt_val (pe_c GN hr (by rfl) (pa_cons (pv 2) pa_nil)))) (pw_or (pt_not (pt_val (pe_c GN hr (by rfl) (pa_cons (pv 3) pa_nil)))) (pw_or1 (pt_not (pt_val (pe_c GN hr (by rfl) (pa_cons (pv 4) pa_nil)))))))) (pss_one (ps_ret pe_bl)) pss_nil)
      (pss_one (ps_ret (pe_and (pe_chain3 op_le op_lt op_le pe_int (pv 2) (pv 3) (pv 0)) (pe_one (pe_cmpR op_ne (pv 4) pe_int (nomark _)))))))), ?_⟩
    cases hB with
    | no h =>
      cases h with
      | int i => exact ⟨_, rfl, ⟨_, _, _, _, false, rfl, .ty _, .base (.int i), kit_ty (by decide +kernel), ⟨false, rfl, iteT q⟩⟩⟩
      | bl b => exact ⟨_, rfl, ⟨_, _, _, _, false, rfl, .ty _, .base (.bl b), kit_ty (by decide +kernel), ⟨false, rfl, iteT q⟩⟩⟩
      | non => exact ⟨_, rfl, ⟨_, _, _, _, false, rfl, .ty _, .base .non, kit_ty (by decide +kernel), ⟨false, rfl, iteT q⟩⟩⟩
      | str z => exact ⟨_, rfl, ⟨_, _, _, _, false, rfl, .ty _, .base (.str z), kit_ty (by decide +kernel), ⟨false, rfl, iteT q⟩⟩⟩
      | lst h => exact ⟨_, rfl, ⟨_, _, _, _, false, rfl, .ty _, ty_lst h, kit_ty (by decide +kernel), ⟨false, rfl, iteT q⟩⟩⟩
    | len h hl =>
      refine ⟨_, rfl, ⟨_, _, _, _, true, rfl, .ty _, (ty_tup h), kit_ty (by decide +kernel), ⟨true, rfl, iteF ⟨_, rfl, _, _, rfl, .inr h, rfl, _, rfl, ?_⟩⟩⟩⟩
      rw [decide_eq_false (fun e => hl (by have := V.int.inj e; omega))]
      exact iteT q
    | sort h hx hy hz hb =>
      refine ⟨_, rfl, ⟨_, _, _, _, true, rfl, .ty _, (ty_tup h), kit_ty (by decide +kernel), ⟨true, rfl, iteF ⟨_, rfl, _, _, rfl, .inr h, rfl, _, rfl, iteF ?_⟩⟩⟩⟩
      refine ⟨_, rfl, _, _, rfl, h, rfl, _, _, rfl, _, _, rfl, _, _, rfl, rfl, ?_⟩
      rename_i x y z bx by' bz
      refine ⟨_, rfl, _, _, rfl, hx, bx, rfl, ?_⟩
      cases bx with
      | false => exact iteT q
      | true =>
        refine iteF ⟨_, rfl, _, _, rfl, hy, by', rfl, ?_⟩
        cases by' with
        | false => exact iteT q
        | true =>
          refine iteF ⟨_, rfl, _, _, rfl, hz, bz, rfl, ?_⟩
          cases bz with
          | false => exact iteT q
          | true => cases hb
    | deed hT =>
      rename_i a x y z
      refine ⟨_, rfl, ⟨_, _, _, _, true, rfl, .ty _, (ty_tup hT), kit_ty (by decide +kernel), ⟨true, rfl, iteF ⟨_, rfl, a, _, rfl, .inr hT, rfl, _, rfl, iteF ?_⟩⟩⟩⟩
      refine ⟨_, rfl, a, _, rfl, hT, rfl, _, _, rfl, _, _, rfl, _, _, rfl, rfl, ?_⟩
      refine ⟨_, rfl, _, _, rfl, .int x, true, rfl, iteF ⟨_, rfl, _, _, rfl, .int y, true, rfl, iteF ⟨_, rfl, _, _, rfl, .int z, true, rfl, iteF ?_⟩⟩⟩
      refine ⟨_, rfl, 0, x, rfl, rfl, _, rfl, ?_⟩
      have fin : ∀ b : Bool, b = deedB n (x, y, z) → Q (.bl b) H := fun b e => by rw [e]; exact q
      by_cases h1 : 0 ≤ x
      · rw [decide_eq_true h1]
        refine iteT ⟨_, rfl, x, y, rfl, rfl, _, rfl, ?_⟩
        by_cases h2 : x < y
        · rw [decide_eq_true h2]
          refine iteT ⟨_, rfl, y, n, rfl, rfl, _, rfl, ?_⟩
          by_cases h3 : y ≤ n
          · rw [decide_eq_true h3]
            refine iteT ⟨_, rfl, rfl, fin _ ?_⟩
            unfold deedB
            rw [decide_eq_true (show (0 : Int) ≤ (x, y, z).1 from h1), decide_eq_true (show (x, y, z).1 < (x, y, z).2.1 from h2), decide_eq_true (show (x, y, z).2.1 ≤ n from h3)]
            show (!decide (V.int z = V.int 0)) = decide (z ≠ 0)
            by_cases h4 : z = 0
            · subst h4; rfl
            · rw [decide_eq_false (fun e => h4 (V.int.inj e)), decide_eq_true h4]; rfl
          · rw [decide_eq_false h3]
            refine iteF (fin _ ?_)
            unfold deedB
            rw [decide_eq_false (show ¬ (x, y, z).2.1 ≤ n from h3)]
            simp
        · rw [decide_eq_false h2]
          refine iteF ⟨false, rfl, iteF (fin _ ?_)⟩
          unfold deedB
          rw [decide_eq_false (show ¬ (x, y, z).1 < (x, y, z).2.1 from h2)]
          simp
      · rw [decide_eq_false h1]
        refine iteF ⟨false, rfl, iteF (fin _ ?_)⟩
        unfold deedB
        rw [decide_eq_false (show ¬ (0 : Int) ≤ (x, y, z).1 from h1)]
        simp

end
end DR
namespace DR
open PySem PySem.Spec PyProof.Rows L2
theorem NotT.same {K : PySem.W.Frag} {H H' : Hp} {x : V} (h : NotT K H x) (s : Same H H') : NotT K H' x := by
  cases h with
  | int i => exact .int i
  | bl b => exact .bl b
  | non => exact .non
  | str z => exact .str z
  | lst h => exact .lst (s.seq h)
theorem DeedB.same {K : PySem.W.Frag} {H H' : Hp} {n : Int} {x : V} {b : Bool} (h : DeedB K H n x b) (s : Same H H') : DeedB K H' n x b := by
  cases h with
  | no h => exact .no (h.same s)
  | len h hl => exact .len (stup s h) hl
  | sort h hx hy hz hb => exact .sort (stup s h) (hx.same s) (hy.same s) (hz.same s) hb
  | deed h => exact .deed (stup s h)
/-- which of the things are deeds -/
def Looked (K : PySem.W.Frag) (H : Hp) (n : Int) (xs : List V) (bs : List Bool) : Prop := bs.length = xs.length ∧ ∀ (i : Nat) (x : V), xs[i]? = some x → ∃ b, bs[i]? = some b ∧ DeedB K H n x b
theorem Looked.same {K : PySem.W.Frag} {H H' : Hp} {n : Int} {xs : List V} {bs : List Bool} (h : Looked K H n xs bs) (s : Same H H') : Looked K H' n xs bs :=
  ⟨h.1, fun i x e => let ⟨b, h1, h2⟩ := h.2 i x e; ⟨b, h1, h2.same s⟩⟩
theorem looked_of {K : PySem.W.Frag} {H : Hp} {n : Int} {as : List Addr} {ds : List Deed} (h : DsAt H as ds) : Looked K H n (as.map V.ref) (ds.map (deedB n)) := by
  refine ⟨by rw [List.length_map, List.length_map, h.len], fun i x e => ?_⟩
  obtain ⟨a, ha, rfl⟩ := ref_at e
  obtain ⟨⟨x, y, z⟩, hd, hT⟩ := h.at_ i a ha
  exact ⟨deedB n (x, y, z), by rw [List.getElem?_map, hd]; rfl, .deed (.inl (.inl hT))⟩
theorem deedB_iff {n : Int} {d : Deed} : deedB n d = decide (DeedOk n d) := by
  unfold deedB
  rw [← Bool.decide_and, ← Bool.decide_and, ← Bool.decide_and]
  exact decide_eq_decide.mpr Iff.rfl
theorem deeds_all {n : Int} (ds : List Deed) : (ds.map (deedB n)).all _root_.id = decide (DeedsOk n ds) := by
  induction ds with
  | nil => exact (decide_eq_true (show DeedsOk n [] from fun d hd => nomatch hd)).symm
  | cons d r ih =>
    rw [List.map_cons, List.all_cons, ih, deedB_iff]
    show (decide (DeedOk n d) && decide (DeedsOk n r)) = _
    rw [← Bool.decide_and]
    exact decide_eq_decide.mpr ⟨fun h x hx => (List.mem_cons.mp hx).elim (fun e => by rw [e]; exact h.1) (h.2 x), fun h => ⟨h d List.mem_cons_self, fun x hx => h x (List.mem_cons_of_mem _ hx)⟩⟩
def spAre (T : List Addr) (K : PySem.W.Frag) : Sp := fun vs H Q _ => ∃ (n : Int) (p : Addr) (xs : List V) (bs : List Bool), vs = [.int n, .ref p] ∧ SqL K H p xs ∧ Tabs T H ∧ Looked K H n xs bs ∧ ∀ H', Same H H' → Q (.bl (bs.all _root_.id)) H'
section
variable {P : Program} {w : World} {K : PySem.W.Frag} {mg : Str → Option Value} {base : Heap} {T : List Addr} {c PA : Addr}
theorem scAre : FnScope ["dials", "things"] ["dials", "things"] (defScope sAre) := ⟨rfl, rfl, rfl, by decide +kernel, rfl, by decide +kernel, by decide +kernel⟩
theorem ok_are (D : DefT K mg "are_deeds" sAre ["dials", "things"] c) (TB : GxR.TabB base mg c PA) (hT : PA ∈ T) (B : Blt mg) (GD : Callee P w K mg base 2 "is_deed" ["dials", "thing"] (spDeedB K)) : Callee P w K mg base 4 "are_deeds" ["dials", "things"] (spAre T K) := by
  refine D.ok scAre (fun vs H Q E h => ?_) (fun f A outer s H vs Q E hr h => ?_)
  · obtain ⟨n, p, xs, bs, rfl, _⟩ := h
    rfl
  · obtain ⟨n, p, xs, bs, rfl, hS, ht, hL, q⟩ := h
    have nd2 : (["thing", "dials"] : List Str).Nodup := by decide +kernel
    refine ⟨_, pss_one (ps_ret (pe_allG (k := 2) (tn := 1) (js := [0]) (N := ["thing", "dials"]) (g := gName 0) hr (by rfl) B.all TB rfl (gsc_by (sc := defScope sAre) (XN := ["dials", "things"]) rfl rfl (by decide +kernel)) (pv 1)
      (fun _ _ _ _ _ _ _ _ => pg_name (i := 0) nd2 rfl (.inl rfl))
      (fun _ _ _ _ _ _ _ _ hr' => pe_c GD hr' (by rfl) (pa_cons (pv 1) (pa_cons (pv 0) pa_nil))))), ?_⟩
    refine ⟨_, rfl, p, xs, rfl, hS, ht PA hT, fun H2 s2 => ?_⟩
    refine ⟨fun ys σ' H' => (∃ v, σ' = [v, some (.int n)]) ∧ Same H H' ∧ (bs.take ys.length).all _root_.id = true, ⟨⟨none, rfl⟩, s2, rfl⟩, fun ys σ' H' h => h.2.1.seq hS, ?_, ?_⟩
    · rintro ys x σ' H' hx ⟨⟨v, rfl⟩, s', hb⟩
      obtain ⟨b, e, hB⟩ := (hL.same s').2 _ _ hx
      refine ⟨_, rfl, _, rfl, n, x, b, rfl, hB, b, rfl, ?_⟩
      cases b with
      | true =>
        rw [if_pos rfl]
        refine ⟨⟨_, rfl⟩, s', ?_⟩
        rw [List.length_append]
        show (bs.take (ys.length + 1)).all _root_.id = true
        rw [all_take e, hb]
        rfl
      | false =>
        rw [if_neg Bool.false_ne_true]
        have e2 : bs.all _root_.id = false := by
          rw [List.all_eq_false]
          exact ⟨false, List.mem_of_getElem? e, by simp⟩
        have := q H' s'
        rw [e2] at this
        exact this
    · rintro ys σ' H' hl ⟨⟨v, rfl⟩, s', hb⟩
      rw [List.take_of_length_le (by rw [hL.1]; omega)] at hb
      have := q H' s'
      rw [hb] at this
      exact this
end
end DR
/-! Dialrow: the greatest gaps are made the other way round. -/
namespace DR
/-- a change that makes a gap, by a mark -/
def Chg (m k g c : Int) : Prop := (c = g ∧ g ≤ k) ∨ (c = g - m ∧ k ≤ g)
def AllC (m k : Int) : List Int → List Int → Prop
  | [], [] => True
  | g :: gs, c :: cs => Chg m k g c ∧ AllC m k gs cs
  | _, _ => False
theorem allC_of {m k : Int} : ∀ {gs cs : List Int}, cs.length = gs.length → (∀ (i : Nat) (g c : Int), gs[i]? = some g → cs[i]? = some c → Chg m k g c) → AllC m k gs cs
  | [], [], _, _ => True.intro
  | [], _ :: _, h, _ => by simp at h
  | _ :: _, [], h, _ => by simp at h
  | g :: gs, c :: cs, h, f => ⟨f 0 g c rfl rfl, allC_of (by simpa using h) fun i g' c' h1 h2 => f (i + 1) g' c' h1 h2⟩
theorem least_chg {m k g c : Int} (h0 : 0 ≤ g) (h1 : g < m) (hm : 0 < m) (h : Chg m k g c) : least m k g = m * pos c - k * c := by
  have ex : (m - k) * g = m * g - k * g := Int.sub_mul _ _ _
  have ey : k * (m - g) = k * m - k * g := Int.mul_sub _ _ _
  have em : k * m = m * k := Int.mul_comm _ _
  unfold least
  rcases h with ⟨rfl, h⟩ | ⟨rfl, h⟩
  · have e : pos c = c := by unfold pos; rw [if_pos h0]
    have le : m * c ≤ m * k := Int.mul_le_mul_of_nonneg_left h (by omega)
    rw [e, Int.min_eq_left (by omega)]
    omega
  · have e : pos (g - m) = 0 := by unfold pos; rw [if_neg (by omega)]
    have le : m * k ≤ m * g := Int.mul_le_mul_of_nonneg_left h (by omega)
    have ez : k * (g - m) = k * g - k * m := Int.mul_sub _ _ _
    rw [e, Int.mul_zero, Int.min_eq_right (by omega)]
    omega
theorem bound_chg {m k : Int} (hm : 0 < m) : ∀ {gs cs : List Int}, (∀ g ∈ gs, 0 ≤ g ∧ g < m) → AllC m k gs cs → bound m k gs = m * cost cs - k * cs.sum
  | [], [], _, _ => by
    show (0 : Int) = m * 0 - k * 0
    omega
  | [], _ :: _, _, h => h.elim
  | _ :: _, [], _, h => h.elim
  | g :: gs, c :: cs, hg, h => by
    have ih := bound_chg (gs := gs) (cs := cs) hm (fun x hx => hg x (List.mem_cons_of_mem _ hx)) h.2
    obtain ⟨h0, h1⟩ := hg g List.mem_cons_self
    rw [bound_cons, ih, least_chg h0 h1 hm h.1, cost_cons, List.sum_cons, Int.mul_add, Int.mul_add]
    omega
theorem allC_mod {m k : Int} : ∀ {gs cs : List Int}, AllC m k gs cs → cs.map (· % m) = gs.map (· % m)
  | [], [], _ => rfl
  | [], _ :: _, h => h.elim
  | _ :: _, [], h => h.elim
  | g :: gs, c :: cs, h => by
    rw [List.map_cons, List.map_cons, allC_mod h.2]
    congr 1
    rcases h.1 with ⟨rfl, _⟩ | ⟨rfl, _⟩
    · rfl
    · exact Int.sub_emod_right g m
theorem allC_length {m k : Int} : ∀ {gs cs : List Int}, AllC m k gs cs → cs.length = gs.length
  | [], [], _ => rfl
  | [], _ :: _, h => h.elim
  | _ :: _, [], h => h.elim
  | g :: gs, c :: cs, h => by rw [List.length_cons, List.length_cons, allC_length h.2]
theorem allC_small {m k : Int} (hm : 0 < m) : ∀ {gs cs : List Int}, (∀ g ∈ gs, 0 ≤ g ∧ g < m) → AllC m k gs cs → ∀ c ∈ cs, ab c ≤ m
  | [], [], _, _ => fun c hc => by cases hc
  | [], _ :: _, _, h => h.elim
  | _ :: _, [], _, h => h.elim
  | g :: gs, c :: cs, hg, h => fun x hx => by
    obtain ⟨h0, h1⟩ := hg g List.mem_cons_self
    rcases List.mem_cons.mp hx with e | hx
    · subst e
      rcases h.1 with ⟨rfl, _⟩ | ⟨rfl, _⟩ <;> (unfold ab; split <;> omega)
    · exact allC_small hm (fun y hy => hg y (List.mem_cons_of_mem _ hy)) h.2 x hx
/-! ### some places made the other way round -/
def dropAt (m : Int) (gs : List Int) (D : List Nat) : List Int := gs.mapIdx fun i g => if i ∈ D then g - m else g
theorem dropAt_length (m : Int) (gs : List Int) (D : List Nat) : (dropAt m gs D).length = gs.length := by unfold dropAt; rw [List.length_mapIdx]
theorem dropAt_get (m : Int) (gs : List Int) (D : List Nat) (i : Nat) : (dropAt m gs D)[i]? = gs[i]?.map fun g => if i ∈ D then g - m else g := by
  unfold dropAt; rw [List.getElem?_mapIdx]
theorem dropAt_nil (m : Int) (gs : List Int) : dropAt m gs [] = gs := by
  refine List.ext_getElem? fun i => ?_
  rw [dropAt_get]
  cases gs[i]? with
  | none => rfl
  | some g => simp
theorem dropAt_step {m : Int} {gs : List Int} {D : List Nat} {i : Nat} {g : Int} (hg : gs[i]? = some g) : (dropAt m gs D).set i (g - m) = dropAt m gs (D ++ [i]) := by
  refine List.ext_getElem? fun j => ?_
  rw [List.getElem?_set, dropAt_length, dropAt_get, dropAt_get]
  have hi := (List.getElem?_eq_some_iff.mp hg).1
  by_cases e : i = j
  · subst e
    rw [if_pos rfl, if_pos hi, hg]
    show some (g - m) = some (if i ∈ D ++ [i] then g - m else g)
    rw [if_pos (List.mem_append_right _ (List.mem_singleton.mpr rfl))]
  · rw [if_neg e]
    cases gs[j]? with
    | none => rfl
    | some x =>
      show some (if j ∈ D then x - m else x) = some (if j ∈ D ++ [i] then x - m else x)
      by_cases hj : j ∈ D
      · rw [if_pos hj, if_pos (List.mem_append_left _ hj)]
      · rw [if_neg hj, if_neg (fun z => (List.mem_append.mp z).elim hj fun w => e (List.mem_singleton.mp w).symm)]
theorem sum_set : ∀ {l : List Int} {i : Nat} {x y : Int}, l[i]? = some x → (l.set i y).sum = l.sum - x + y
  | [], _, _, _, h => by simp at h
  | a :: l, 0, x, y, h => by
    have e : a = x := by simpa using h
    subst e
    show (y :: l).sum = (a :: l).sum - a + y
    rw [List.sum_cons, List.sum_cons]; omega
  | a :: l, i + 1, x, y, h => by
    have ih := sum_set (l := l) (i := i) (x := x) (y := y) (by simpa using h)
    show (a :: l.set i y).sum = (a :: l).sum - x + y
    rw [List.sum_cons, List.sum_cons, ih]; omega
theorem nodup_take_not {D : List Nat} (h : D.Nodup) {j i : Nat} (hj : D[j]? = some i) : i ∉ D.take j := by
  intro hm
  obtain ⟨k, hk⟩ := List.mem_iff_getElem?.mp hm
  have hkj : k < j := by
    have := (List.getElem?_eq_some_iff.mp hk).1
    rw [List.length_take] at this
    omega
  rw [List.getElem?_take_of_lt hkj] at hk
  have a := (List.getElem?_eq_some_iff.mp hk).1
  have b := (List.getElem?_eq_some_iff.mp hj).1
  have ea := (List.getElem?_eq_some_iff.mp hk).2
  have eb := (List.getElem?_eq_some_iff.mp hj).2
  have := (List.getElem_inj (h₀ := a) (h₁ := b) h).mp (by rw [ea, eb])
  omega
theorem dropAt_sum {m : Int} {gs : List Int} {D : List Nat} (hn : D.Nodup) (hl : ∀ i ∈ D, i < gs.length) : ∀ j, j ≤ D.length → (dropAt m gs (D.take j)).sum = gs.sum - m * j
  | 0, _ => by
    rw [List.take_zero, dropAt_nil]
    show gs.sum = gs.sum - m * 0
    omega
  | j + 1, h => by
    have ih := dropAt_sum (m := m) hn hl j (by omega)
    have hj := List.getElem?_eq_getElem (show j < D.length by omega)
    have hi := hl D[j] (List.getElem_mem _)
    have hg := List.getElem?_eq_getElem hi
    rw [take_snoc hj, ← dropAt_step hg]
    have old : (dropAt m gs (D.take j))[D[j]]? = some gs[D[j]] := by
      rw [dropAt_get, hg]
      show some (if D[j] ∈ D.take j then _ else _) = _
      rw [if_neg (nodup_take_not hn hj)]
    rw [sum_set old, ih]
    have : m * ((j + 1 : Nat) : Int) = m * (j : Int) + m := by rw [Int.natCast_add, Int.mul_add]; omega
    omega
/-! ### by the order of the gaps -/
def pairs (gs : List Int) : List (Int × Int) := gs.mapIdx fun i g => (g, (i : Int))
theorem pairs_mem {gs : List Int} {p : Int × Int} : p ∈ pairs gs ↔ ∃ i : Nat, gs[i]? = some p.1 ∧ p.2 = (i : Int) := by
  unfold pairs
  constructor
  · intro h
    obtain ⟨i, hi⟩ := List.mem_iff_getElem?.mp h
    rw [List.getElem?_mapIdx] at hi
    cases e : gs[i]? with
    | none => rw [e] at hi; cases hi
    | some g =>
      rw [e] at hi
      have := Option.some.inj hi
      subst this
      exact ⟨i, e, rfl⟩
  · rintro ⟨i, h1, h2⟩
    refine List.mem_iff_getElem?.mpr ⟨i, ?_⟩
    rw [List.getElem?_mapIdx, h1]
    obtain ⟨a, b⟩ := p
    show some (a, (i : Int)) = some (a, b)
    rw [show b = (i : Int) from h2]
theorem pairs_nodup (gs : List Int) : ((pairs gs).map fun p => p.2.toNat).Nodup := by
  have e : (pairs gs).map (fun p => p.2.toNat) = List.range gs.length := by
    refine List.ext_getElem? fun i => ?_
    unfold pairs
    rw [List.getElem?_map, List.getElem?_mapIdx]
    by_cases h : i < gs.length
    · rw [List.getElem?_eq_getElem h, List.getElem?_range h]
      rfl
    · rw [List.getElem?_eq_none (by omega), List.getElem?_eq_none (by rw [List.length_range]; omega)]
      rfl
  rw [e]
  exact List.nodup_range
structure Ord (gs : List Int) (ps : List (Int × Int)) : Prop where
  perm : ps.Perm (pairs gs)
  asc : ps.Pairwise fun p q => p.1 ≤ q.1
theorem Ord.len {gs : List Int} {ps : List (Int × Int)} (h : Ord gs ps) : ps.length = gs.length := by
  rw [h.perm.length_eq]; unfold pairs; rw [List.length_mapIdx]
theorem Ord.le {gs : List Int} {ps : List (Int × Int)} (h : Ord gs ps) {i j : Nat} {p q : Int × Int} (hp : ps[i]? = some p) (hq : ps[j]? = some q) (hij : i ≤ j) : p.1 ≤ q.1 := by
  rcases Nat.lt_or_eq_of_le hij with hlt | e
  · obtain ⟨a, ea⟩ := List.getElem?_eq_some_iff.mp hp
    obtain ⟨b, eb⟩ := List.getElem?_eq_some_iff.mp hq
    have := List.pairwise_iff_getElem.mp h.asc i j a b hlt
    rw [ea, eb] at this
    exact this
  · subst e
    rw [hp] at hq
    cases hq
    exact Int.le_refl _
/-- the places of the greatest ones -/
def tops (ps : List (Int × Int)) (kept : Nat) : List Nat := (ps.drop kept).map fun p => p.2.toNat
theorem Ord.nodup {gs : List Int} {ps : List (Int × Int)} (h : Ord gs ps) (kept : Nat) : (tops ps kept).Nodup := by
  have : (ps.map fun p => p.2.toNat).Nodup := (h.perm.map _).nodup_iff.mpr (pairs_nodup gs)
  unfold tops
  rw [List.map_drop]
  exact this.sublist (List.drop_sublist _ _)
theorem Ord.tops_lt {gs : List Int} {ps : List (Int × Int)} (h : Ord gs ps) (kept : Nat) : ∀ i ∈ tops ps kept, i < gs.length := by
  intro i hi
  obtain ⟨p, hp, e⟩ := List.mem_map.mp hi
  obtain ⟨j, h1, h2⟩ := pairs_mem.mp (h.perm.mem_iff.mp (List.mem_of_mem_drop hp))
  have := (List.getElem?_eq_some_iff.mp h1).1
  rw [← e, h2]
  omega
/-- the changes are right -/
theorem Ord.all {m : Int} {gs : List Int} {ps : List (Int × Int)} (h : Ord gs ps) {kept : Nat} (hk : 0 < kept) {k : Int × Int} (hkk : ps[kept - 1]? = some k) : AllC m k.1 gs (dropAt m gs (tops ps kept)) := by
  refine allC_of (dropAt_length _ _ _) fun i g c hg hc => ?_
  rw [dropAt_get, hg] at hc
  have hc' : (if i ∈ tops ps kept then g - m else g) = c := Option.some.inj hc
  by_cases hi : i ∈ tops ps kept
  · rw [if_pos hi] at hc'
    obtain ⟨p, hp, e⟩ := List.mem_map.mp hi
    obtain ⟨j, h1, h2⟩ := pairs_mem.mp (h.perm.mem_iff.mp (List.mem_of_mem_drop hp))
    have ej : j = i := by omega
    subst ej
    rw [hg] at h1
    have eg : g = p.1 := Option.some.inj h1
    obtain ⟨t, ht⟩ := List.mem_iff_getElem?.mp hp
    rw [List.getElem?_drop] at ht
    exact .inr ⟨hc'.symm, by rw [eg]; exact h.le hkk ht (by omega)⟩
  · rw [if_neg hi] at hc'
    obtain ⟨t, ht⟩ := List.mem_iff_getElem?.mp (h.perm.mem_iff.mpr (pairs_mem.mpr ⟨i, (show gs[i]? = some ((g, (i : Int)) : Int × Int).1 from hg), rfl⟩))
    by_cases hlt : t < kept
    · exact .inl ⟨hc'.symm, h.le ht hkk (by omega)⟩
    · refine absurd (List.mem_map.mpr ⟨(g, (i : Int)), List.mem_iff_getElem?.mpr ⟨t - kept, ?_⟩, ?_⟩) hi
      · rw [List.getElem?_drop, show kept + (t - kept) = t by omega]
        exact ht
      · show ((i : Int)).toNat = i
        omega
theorem Ord.sum {m : Int} {gs : List Int} {ps : List (Int × Int)} (h : Ord gs ps) {kept q : Nat} (hq : kept + q = gs.length) (hs : gs.sum = m * q) : (dropAt m gs (tops ps kept)).sum = 0 := by
  have hl : (tops ps kept).length = q := by unfold tops; rw [List.length_map, List.length_drop, h.len]; omega
  have := dropAt_sum (m := m) (h.nodup kept) (h.tops_lt kept) q (by omega)
  rw [List.take_of_length_le (by omega)] at this
  omega
/-- how many sizes the gaps make -/
theorem sum_lt {m : Int} : ∀ {gs : List Int}, (∀ g ∈ gs, 0 ≤ g ∧ g < m) → gs ≠ [] → 0 ≤ gs.sum ∧ gs.sum < m * gs.length
  | [], _, h => absurd rfl h
  | [g], h, _ => by
    have := h g List.mem_cons_self
    show 0 ≤ [g].sum ∧ [g].sum < m * ((1 : Nat) : Int)
    simp
    omega
  | g :: g2 :: r, h, _ => by
    have ih := sum_lt (m := m) (gs := g2 :: r) (fun x hx => h x (List.mem_cons_of_mem _ hx)) (by simp)
    have := h g List.mem_cons_self
    rw [List.sum_cons, List.length_cons]
    have : m * (((g2 :: r).length + 1 : Nat) : Int) = m * ((g2 :: r).length : Int) + m := by rw [Int.natCast_add, Int.mul_add]; omega
    omega
theorem sum_mod {m : Int} : ∀ l : List Int, (l.map (· % m)).sum % m = l.sum % m
  | [] => rfl
  | x :: r => by
    rw [List.map_cons, List.sum_cons, List.sum_cons]
    rw [Int.emod_add_emod, Int.add_emod, sum_mod r, ← Int.add_emod]
theorem sizes_of {m : Int} (hm : 0 < m) {xs ys : List Int} (hl : xs.length = ys.length) : ∃ q : Nat, ((raw xs ys).map (· % m)).sum = m * q ∧ q < xs.length + 1 ∧ ((raw xs ys).map (· % m)).sum / m = (q : Int) := by
  have hr := raw_length hl
  have hne : (raw xs ys).map (· % m) ≠ [] := by
    intro e
    have := congrArg List.length e
    rw [List.length_map, hr] at this
    simp at this
  have hg : ∀ g ∈ (raw xs ys).map (· % m), 0 ≤ g ∧ g < m := fun g hg => by
    obtain ⟨y, _, e⟩ := List.mem_map.mp hg
    rw [← e]
    exact ⟨Int.emod_nonneg _ (by omega), Int.emod_lt_of_pos _ hm⟩
  obtain ⟨h0, h1⟩ := sum_lt hg hne
  have hz : ((raw xs ys).map (· % m)).sum % m = 0 := by rw [sum_mod, raw_sum, Int.zero_emod]
  rw [List.length_map, hr] at h1
  generalize ((raw xs ys).map (· % m)).sum = S at *
  have hd := Int.mul_ediv_add_emod S m
  have hq0 : 0 ≤ S / m := Int.ediv_nonneg h0 (by omega)
  refine ⟨(S / m).toNat, by rw [Int.toNat_of_nonneg hq0]; omega, ?_, by rw [Int.toNat_of_nonneg hq0]⟩
  have : S / m < ((xs.length + 1 : Nat) : Int) := by
    refine Int.lt_of_mul_lt_mul_left (a := m) ?_ (by omega)
    omega
  omega
end DR
/-! Dialrow: deeds over changes, none turned back by another one. -/
namespace DR
abbrev Owed := List (Int × Int)
/-- what is still to be made up for at a place -/
def wsum : Owed → Int → Int
  | [], _ => 0
  | p :: r, x => (if p.1 ≤ x then p.2 else 0) + wsum r x
theorem wsum_snoc (p : Int × Int) (x : Int) : ∀ ws : Owed, wsum (ws ++ [p]) x = wsum ws x + if p.1 ≤ x then p.2 else 0
  | [] => by show (if p.1 ≤ x then p.2 else 0) + (0 : Int) = 0 + _; omega
  | q :: r => by
    show (if q.1 ≤ x then q.2 else 0) + wsum (r ++ [p]) x = (if q.1 ≤ x then q.2 else 0) + wsum r x + _
    rw [wsum_snoc p x r]; omega
def wpos (ws : Owed) : Int := cost (ws.map (·.2))
theorem wpos_snoc (ws : Owed) (p : Int × Int) : wpos (ws ++ [p]) = wpos ws + pos p.2 := by
  unfold wpos
  rw [List.map_append, cost_append, List.map_cons, List.map_nil, cost_cons]
  show _ + (pos p.2 + 0) = _
  omega
/-- one sign -/
def Sg (ws : Owed) : Prop := (∀ p ∈ ws, 0 < p.2) ∨ ∀ p ∈ ws, p.2 < 0
/-- deeds at place i, with left still to be made up for there -/
structure Ov (B : Int) (n : Nat) (cs : List Int) (i : Nat) (left : Int) (ds : List Deed) (ws : Owed) : Prop where
  cov : ∀ x : Nat, cover ds x + wsum ws x + (if i ≤ x then left else 0) = ((cs.take (i + 1)).take (x + 1)).sum
  sg : Sg ws
  cst : steps ds + wpos ws + pos left = cost (cs.take (i + 1))
  ok : DeedsOk i ds
  pl : ∀ p ∈ ws, 0 ≤ p.1 ∧ p.1 < i
  sm : ∀ p ∈ ws, ab p.2 ≤ B
  sl : ab left ≤ B
  few : ds.length + ws.length + (if left = 0 then 0 else 1) ≤ i + 1
/-- .. before it -/
structure Ov0 (B : Int) (cs : List Int) (i : Nat) (ds : List Deed) (ws : Owed) : Prop where
  cov : ∀ x : Nat, cover ds x + wsum ws x = ((cs.take i).take (x + 1)).sum
  sg : Sg ws
  cst : steps ds + wpos ws = cost (cs.take i)
  ok : DeedsOk ((i : Int) - 1) ds
  pl : ∀ p ∈ ws, 0 ≤ p.1 ∧ p.1 < i
  sm : ∀ p ∈ ws, ab p.2 ≤ B
  few : ds.length + ws.length ≤ i
theorem Ov0.nil {B : Int} {cs : List Int} : Ov0 B cs 0 [] [] :=
  { cov := fun x => by rw [List.take_zero, List.take_nil]; rfl
    sg := Or.inl (fun _ h => absurd h List.not_mem_nil)
    cst := by rw [List.take_zero]; rfl
    ok := fun _ h => absurd h List.not_mem_nil
    pl := fun _ h => absurd h List.not_mem_nil
    sm := fun _ h => absurd h List.not_mem_nil
    few := Nat.le_refl _ }
theorem Ov0.start {B : Int} {cs : List Int} {i : Nat} {ds : List Deed} {ws : Owed} {c : Int} (h : Ov0 B cs i ds ws) (hc : cs[i]? = some c) (hB : ab c ≤ B) : Ov B 0 cs i c ds ws := by
  have hi := (List.getElem?_eq_some_iff.mp hc).1
  refine ⟨fun x => ?_, h.sg, ?_, fun d hd => ?_, h.pl, h.sm, hB, ?_⟩
  · rw [h.cov x, take_snoc hc, List.take_append, sumI_append, List.length_take, Nat.min_eq_left (by omega)]
    by_cases hx : i ≤ x
    · rw [if_pos hx, show x + 1 - i = (x - i) + 1 by omega]
      show _ = _ + (c :: List.take (x - i) []).sum
      rw [List.take_nil]
      show _ = _ + (c + 0)
      omega
    · rw [if_neg hx, show x + 1 - i = 0 by omega, List.take_zero]
      rfl
  · rw [take_snoc hc, cost_append, h.cst]
    show _ = _ + (pos c + 0)
    omega
  · have := h.ok d hd
    exact ⟨this.1, this.2.1, by have := this.2.2.1; omega, this.2.2.2⟩
  · have := h.few
    split <;> omega
theorem pos_le_ab (x : Int) : pos x ≤ ab x := by unfold pos ab; split <;> split <;> omega
theorem Sg.front {ws : Owed} {p : Int × Int} (h : Sg (ws ++ [p])) : Sg ws := h.elim (fun f => .inl fun q hq => f q (List.mem_append_left _ hq)) fun f => .inr fun q hq => f q (List.mem_append_left _ hq)
theorem Sg.last {ws : Owed} {p q : Int × Int} (h : Sg (ws ++ [p])) (hq : 0 < p.2 → 0 < q.2) (hn : p.2 < 0 → q.2 < 0) : Sg (ws ++ [q]) := by
  have hm : p ∈ ws ++ [p] := List.mem_append_right _ (List.mem_singleton.mpr rfl)
  rcases h with f | f
  · refine .inl fun r hr => ?_
    rcases List.mem_append.mp hr with k | k
    · exact f r (List.mem_append_left _ k)
    · rw [List.mem_singleton.mp k]; exact hq (f p hm)
  · refine .inr fun r hr => ?_
    rcases List.mem_append.mp hr with k | k
    · exact f r (List.mem_append_left _ k)
    · rw [List.mem_singleton.mp k]; exact hn (f p hm)
theorem Ov.place {B : Int} {n i : Nat} {cs : List Int} {left : Int} {ds : List Deed} {ws : Owed} {p : Int × Int} (h : Ov B n cs i left ds (ws ++ [p])) : 0 ≤ p.1 ∧ p.1 < i ∧ ab p.2 ≤ B :=
  have hm : p ∈ ws ++ [p] := List.mem_append_right _ (List.mem_singleton.mpr rfl)
  ⟨(h.pl p hm).1, (h.pl p hm).2, h.sm p hm⟩
theorem steps_snoc (ds : List Deed) (d : Deed) : steps (ds ++ [d]) = steps ds + ab d.2.2 := by
  rw [steps_append]
  show _ + (ab d.2.2 + 0) = _
  omega
theorem DeedsOk.snoc {n : Int} {ds : List Deed} {d : Deed} (h : DeedsOk n ds) (hd : DeedOk n d) : DeedsOk n (ds ++ [d]) := fun e he => by
  rcases List.mem_append.mp he with k | k
  · exact h e k
  · rw [List.mem_singleton.mp k]; exact hd
theorem prod_neg {x y : Int} (h : x * y < 0) : (x < 0 ∧ 0 < y) ∨ (0 < x ∧ y < 0) := by
  rcases Int.lt_trichotomy x 0 with hx | hx | hx
  · rcases Int.lt_trichotomy y 0 with hy | hy | hy
    · have := Int.mul_pos_of_neg_of_neg hx hy; omega
    · subst hy; simp at h
    · exact .inl ⟨hx, hy⟩
  · subst hx; simp at h
  · rcases Int.lt_trichotomy y 0 with hy | hy | hy
    · exact .inr ⟨hx, hy⟩
    · subst hy; simp at h
    · have := Int.mul_pos hx hy; omega
/-- all that is owed at a place is turned -/
theorem Ov.whole {B : Int} {n i : Nat} {cs : List Int} {left f o : Int} {ds : List Deed} {ws : Owed} (h : Ov B n cs i left ds (ws ++ [(f, o)])) (hn : o * left < 0) (hle : ab o ≤ ab left) : Ov B n cs i (left + o) (ds ++ [(f, (i : Int), o)]) ws := by
  obtain ⟨p1, p2, p3⟩ := h.place
  have p1 : 0 ≤ f := p1
  have p2 : f < i := p2
  have hs := prod_neg hn
  have hl : left ≠ 0 := by omega
  refine ⟨fun x => ?_, h.sg.front, ?_, h.ok.snoc ⟨p1, p2, Int.le_refl _, (show o ≠ 0 by omega)⟩, fun q hq => h.pl q (List.mem_append_left _ hq), fun q hq => h.sm q (List.mem_append_left _ hq), ?_, ?_⟩
  · have := h.cov x
    rw [← this, cover_snoc, wsum_snoc]
    dsimp only
    by_cases h1 : i ≤ x
    · rw [if_pos h1, if_pos h1, if_neg (by omega), if_pos (by omega)]; omega
    · rw [if_neg h1, if_neg h1]
      by_cases h2 : f ≤ x
      · rw [if_pos ⟨h2, by omega⟩, if_pos h2]; omega
      · rw [if_neg (by omega), if_neg h2]; omega
  · have := h.cst
    rw [← this, steps_snoc, wpos_snoc]
    have e : ab o + pos (left + o) = pos o + pos left := by
      unfold ab at hle ⊢
      unfold pos
      rcases hs with hs | hs
      · rw [if_pos hs.1] at hle ⊢
        rw [if_neg (by omega)] at hle
        rw [if_pos (by omega), if_neg (by omega), if_pos (by omega)]; omega
      · rw [if_neg (by omega)] at hle ⊢
        rw [if_pos hs.2] at hle
        by_cases hz : left + o = 0
        · rw [if_pos (by omega), if_pos (by omega), if_neg (by omega)]; omega
        · rw [if_neg (by omega), if_pos (by omega), if_neg (by omega)]
    show steps ds + ab o + wpos ws + pos (left + o) = steps ds + (wpos ws + pos o) + pos left
    omega
  · have := h.sl
    refine Int.le_trans ?_ this
    unfold ab at hle ⊢
    split <;> split <;> (try split at hle) <;> (try split at hle) <;> omega
  · have := h.few
    rw [if_neg hl, List.length_append] at this
    rw [List.length_append]
    have e1 : ([(f, o)] : Owed).length = 1 := rfl
    have e2 : ([(f, (i : Int), o)] : List Deed).length = 1 := rfl
    rw [e1] at this
    rw [e2]
    split <;> omega
/-- .. a part of it -/
theorem Ov.part {B : Int} {n i : Nat} {cs : List Int} {left f o : Int} {ds : List Deed} {ws : Owed} (h : Ov B n cs i left ds (ws ++ [(f, o)])) (hn : o * left < 0) (hle : ¬ ab o ≤ ab left) : Ov B n cs i (left + -left) (ds ++ [(f, (i : Int), -left)]) (ws ++ [(f, o - -left)]) := by
  obtain ⟨p1, p2, p3⟩ := h.place
  have p1 : 0 ≤ f := p1
  have p2 : f < i := p2
  have p3 : ab o ≤ B := p3
  have hs := prod_neg hn
  have hl : left ≠ 0 := by omega
  have hz : left + -left = 0 := by omega
  have hb : (o < 0 ∧ 0 < left ∧ o + left < 0) ∨ (0 < o ∧ left < 0 ∧ 0 < o + left) := by
    unfold ab at hle
    rcases hs with hs | hs
    · rw [if_pos hs.1, if_neg (by omega)] at hle; omega
    · rw [if_neg (by omega), if_pos hs.2] at hle; omega
  rw [hz]
  refine ⟨fun x => ?_, h.sg.last (fun (z : 0 < o) => (show 0 < o - -left by omega)) (fun (z : o < 0) => (show o - -left < 0 by omega)), ?_, h.ok.snoc ⟨p1, p2, Int.le_refl _, (show -left ≠ 0 by omega)⟩, fun q hq => ?_, fun q hq => ?_, ?_, ?_⟩
  · have := h.cov x
    rw [← this, cover_snoc, wsum_snoc, wsum_snoc]
    dsimp only
    by_cases h1 : i ≤ x
    · rw [if_pos h1, if_pos h1, if_neg (by omega), if_pos (by omega), if_pos (by omega)]; omega
    · rw [if_neg h1, if_neg h1]
      by_cases h2 : f ≤ x
      · rw [if_pos ⟨h2, by omega⟩, if_pos h2, if_pos h2]; omega
      · rw [if_neg (by omega), if_neg h2, if_neg h2]; omega
  · have := h.cst
    rw [← this, steps_snoc, wpos_snoc, wpos_snoc]
    have e : ab (-left) + pos (o - -left) + pos 0 = pos o + pos left := by
      unfold ab pos
      rcases hb with hb | hb
      · rw [if_pos (by omega), if_neg (by omega), if_pos (by omega), if_neg (by omega), if_pos (by omega)]; omega
      · rw [if_neg (by omega), if_pos (by omega), if_pos (by omega), if_pos (by omega), if_neg (by omega)]; omega
    show steps ds + ab (-left) + (wpos ws + pos (o - -left)) + pos 0 = steps ds + (wpos ws + pos o) + pos left
    omega
  · rcases List.mem_append.mp hq with k | k
    · exact h.pl q (List.mem_append_left _ k)
    · rw [List.mem_singleton.mp k]; exact ⟨p1, p2⟩
  · rcases List.mem_append.mp hq with k | k
    · exact h.sm q (List.mem_append_left _ k)
    · rw [List.mem_singleton.mp k]
      show ab (o - -left) ≤ B
      unfold ab at p3 ⊢
      split <;> split at p3 <;> omega
  · have := h.sl
    unfold ab at this ⊢
    split at this <;> (rw [if_neg (by omega)]; omega)
  · have := h.few
    rw [if_neg hl, List.length_append] at this
    rw [if_pos rfl, List.length_append, List.length_append]
    have e1 : ∀ p : Int × Int, ([p] : Owed).length = 1 := fun _ => rfl
    have e2 : ∀ p : Deed, ([p] : List Deed).length = 1 := fun _ => rfl
    rw [e1] at this ⊢
    rw [e2]
    omega
/-- nothing is left of it -/
theorem Ov.none {B : Int} {n i : Nat} {cs : List Int} {ds : List Deed} {ws : Owed} (h : Ov B n cs i 0 ds ws) : Ov0 B cs (i + 1) ds ws := by
  refine ⟨fun x => ?_, h.sg, ?_, fun d hd => ?_, fun p hp => ?_, h.sm, ?_⟩
  · have := h.cov x
    rw [← this]
    split <;> omega
  · have := h.cst
    rw [← this]
    show _ = _ + (0 : Int)
    omega
  · have := h.ok d hd
    exact ⟨this.1, this.2.1, by have := this.2.2.1; omega, this.2.2.2⟩
  · have := h.pl p hp
    omega
  · have := h.few
    rw [if_pos rfl] at this
    omega
/-- .. what is left waits -/
theorem Ov.wait {B : Int} {n i : Nat} {cs : List Int} {left : Int} {ds : List Deed} {ws : Owed} (h : Ov B n cs i left ds ws) (h0 : left ≠ 0) (hs : ∀ p, ws.getLast? = some p → ¬ p.2 * left < 0) : Ov0 B cs (i + 1) ds (ws ++ [((i : Int), left)]) := by
  refine ⟨fun x => ?_, ?_, ?_, fun d hd => ?_, fun p hp => ?_, fun p hp => ?_, ?_⟩
  · have := h.cov x
    rw [← this, wsum_snoc]
    show cover ds x + (wsum ws x + if (i : Int) ≤ (x : Int) then left else 0) = _
    by_cases hx : i ≤ x
    · rw [if_pos hx, if_pos (by omega)]; omega
    · rw [if_neg hx, if_neg (by omega)]; omega
  · have one : Sg ([((i : Int), left)] : Owed) := by
      rcases Int.lt_or_gt_of_ne h0 with k | k
      · exact .inr fun p hp => by rw [List.mem_singleton.mp hp]; exact k
      · exact .inl fun p hp => by rw [List.mem_singleton.mp hp]; exact k
    cases e : ws.getLast? with
    | none =>
      rw [List.getLast?_eq_none_iff.mp e]
      exact one
    | some p =>
      have hp := hs p e
      have hm : p ∈ ws := List.mem_of_getLast? e
      rcases h.sg with f | f
      · have hpp := f p hm
        refine .inl fun q hq => ?_
        rcases List.mem_append.mp hq with k | k
        · exact f q k
        · rw [List.mem_singleton.mp k]
          show 0 < left
          rcases Int.lt_or_gt_of_ne h0 with k2 | k2
          · exact absurd (Int.mul_neg_of_pos_of_neg hpp k2) hp
          · exact k2
      · have hpp := f p hm
        refine .inr fun q hq => ?_
        rcases List.mem_append.mp hq with k | k
        · exact f q k
        · rw [List.mem_singleton.mp k]
          show left < 0
          rcases Int.lt_or_gt_of_ne h0 with k2 | k2
          · exact k2
          · exact absurd (Int.mul_neg_of_neg_of_pos hpp k2) hp
  · have := h.cst
    rw [← this, wpos_snoc]
    show _ + (_ + pos left) = _
    omega
  · have := h.ok d hd
    exact ⟨this.1, this.2.1, by have := this.2.2.1; omega, this.2.2.2⟩
  · rcases List.mem_append.mp hp with k | k
    · have := h.pl p k; omega
    · rw [List.mem_singleton.mp k]
      show (0 : Int) ≤ i ∧ (i : Int) < ((i + 1 : Nat) : Int)
      omega
  · rcases List.mem_append.mp hp with k | k
    · exact h.sm p k
    · rw [List.mem_singleton.mp k]; exact h.sl
  · have := h.few
    rw [if_neg h0] at this
    rw [List.length_append]
    show _ + (_ + 1) ≤ _
    omega
theorem wsum_all {x : Int} : ∀ {ws : Owed}, (∀ p ∈ ws, p.1 ≤ x) → wsum ws x = (ws.map (·.2)).sum
  | [], _ => rfl
  | p :: r, h => by
    show (if p.1 ≤ x then p.2 else 0) + wsum r x = (p.2 :: r.map (·.2)).sum
    rw [if_pos (h p List.mem_cons_self), wsum_all fun q hq => h q (List.mem_cons_of_mem _ hq), List.sum_cons]
theorem sg_nil {ws : Owed} (h : Sg ws) (hz : (ws.map (·.2)).sum = 0) : ws = [] := by
  cases ws with
  | nil => rfl
  | cons p r =>
    exfalso
    have up : ∀ l : List Int, (∀ x ∈ l, 0 < x) → 0 ≤ l.sum := fun l => by
      induction l with
      | nil => intro _; exact Int.le_refl _
      | cons a l ih =>
        intro f
        rw [List.sum_cons]
        have := f a List.mem_cons_self
        have := ih fun x hx => f x (List.mem_cons_of_mem _ hx)
        omega
    have dn : ∀ l : List Int, (∀ x ∈ l, x < 0) → l.sum ≤ 0 := fun l => by
      induction l with
      | nil => intro _; exact Int.le_refl _
      | cons a l ih =>
        intro f
        rw [List.sum_cons]
        have := f a List.mem_cons_self
        have := ih fun x hx => f x (List.mem_cons_of_mem _ hx)
        omega
    rw [List.map_cons, List.sum_cons] at hz
    rcases h with f | f
    · have a := f p List.mem_cons_self
      have b := up (r.map (·.2)) fun x hx => by
        obtain ⟨q, hq, rfl⟩ := List.mem_map.mp hx
        exact f q (List.mem_cons_of_mem _ hq)
      omega
    · have a := f p List.mem_cons_self
      have b := dn (r.map (·.2)) fun x hx => by
        obtain ⟨q, hq, rfl⟩ := List.mem_map.mp hx
        exact f q (List.mem_cons_of_mem _ hq)
      omega
/-- deeds over changes -/
structure Over (cs : List Int) (ds : List Deed) : Prop where
  ok : DeedsOk ((cs.length : Int) - 1) ds
  cov : ∀ x : Nat, cover ds x = (cs.take (x + 1)).sum
  cst : steps ds = cost cs
  few : ds.length ≤ cs.length
theorem Ov0.over {B : Int} {cs : List Int} {ds : List Deed} {ws : Owed} (h : Ov0 B cs cs.length ds ws) (hz : cs.sum = 0) : Over cs ds := by
  have hc := h.cov cs.length
  have hw : ws = [] := by
    rw [List.take_of_length_le (Nat.le_refl _), List.take_of_length_le (by omega), hz, wsum_all fun p hp => by have := (h.pl p hp).2; omega] at hc
    have : cover ds (cs.length : Int) = 0 := (cover_out (n := cs.length) (ds := ds) fun d hd => by
      have := h.ok d hd
      exact ⟨this.1, this.2.1, by have := this.2.2.1; omega, this.2.2.2⟩).2
    exact sg_nil h.sg (by omega)
  subst hw
  refine ⟨h.ok, fun x => ?_, ?_, ?_⟩
  · have := h.cov x
    rw [List.take_of_length_le (Nat.le_refl _)] at this
    rw [← this]
    show _ = _ + (0 : Int)
    omega
  · have := h.cst
    rw [List.take_of_length_le (Nat.le_refl _)] at this
    rw [← this]
    show _ = _ + (0 : Int)
    omega
  · have := h.few
    exact this
end DR
namespace DR
open PySem PySem.Spec PyProof.Rows L2
def spDeeds (T : List Addr) (K : PySem.W.Frag) : Sp := fun vs H Q _ => ∃ (n : Int) (p : Addr) (as : List Addr) (ds : List Deed), vs = [.int n, .ref p] ∧ SqL K H p (as.map V.ref) ∧ DsAt H as ds ∧ DeedsOk n ds ∧ Tabs T H ∧ ∀ H', Same H H' → Q .non H'
def spTurned (T : List Addr) (K : PySem.W.Frag) : Sp := fun vs H Q _ => ∃ (m : Int) (a p : Addr) (ns : List Int) (as : List Addr) (ds : List Deed), vs = [.int m, .ref a, .ref p] ∧ SqL K H a (ns.map V.int) ∧ SqL K H p (as.map V.ref) ∧ DsAt H as ds ∧
  2 ≤ m ∧ RowOk m ns ∧ DeedsOk ns.length ds ∧ ns.length ≤ 1000 ∧ Tabs T H ∧ ∀ H' q, Same H H' → H q = none → H' q = some (.lst ((behind m ns ds).map V.int)) → Q (.ref q) H'
section
variable {P : Program} {w : World} {K : PySem.W.Frag} {mg : Str → Option Value} {base : Heap} {T : List Addr}
theorem scDeeds : FnScope ["dials", "deeds"] ["dials", "deeds"] (defScope sDeeds) := ⟨rfl, rfl, rfl, by decide +kernel, rfl, by decide +kernel, by decide +kernel⟩
theorem ok_deeds (D : Def K mg "check_deeds" sDeeds ["dials", "deeds"]) (B : Blt mg) (GA : Callee P w K mg base 4 "are_deeds" ["dials", "things"] (spAre T K)) : Callee P w K mg base 5 "check_deeds" ["dials", "deeds"] (spDeeds T K) := by
  refine D.ok scDeeds (fun vs H Q E h => ?_) (fun f cdv A outer s H vs Q E hr h => ?_)
  · obtain ⟨n, p, as, ds, rfl, _⟩ := h
    rfl
  · obtain ⟨n, p, as, ds, rfl, hS, hD, hok, hT, q⟩ := h
    refine ⟨_, pss_cons (ps_if (pt_not (pt_val (pe_callB call_isi (by rfl) B.isi boot_isinstance (pa_cons (pv 1) (pa_cons (pe_bltn (v := .ty "list") (by rfl) B.list PyProof.Rows.boot_list rfl) pa_nil))))) (pss_one ps_never) pss_nil)
      (pss_one (ps_if (pt_not (pt_val (pe_c GA hr (by rfl) (pa_cons (pv 0) (pa_cons (pv 1) pa_nil))))) (pss_one ps_never) pss_nil)), ?_⟩
    refine ⟨_, rfl, ⟨_, _, _, _, true, rfl, .ty _, (ty_lst hS), kit_ty (by decide +kernel), ⟨true, rfl, iteF ?_⟩⟩⟩
    refine ⟨_, rfl, _, rfl, n, p, _, _, rfl, hS, hT, looked_of hD, fun H' s' => ⟨_, rfl, ?_⟩⟩
    rw [deeds_all, decide_eq_true hok]
    exact iteF (q H' s')
theorem scTurned : FnScope ["size", "row", "deeds", "changes", "first", "end", "steps", "behind", "turn", "place", "figure"] ["size", "row", "deeds"] (defScope sTurned) := ⟨rfl, rfl, rfl, by decide +kernel, rfl, by decide +kernel, by decide +kernel⟩
theorem bump_V (c : List Int) (k : Nat) (s y : Int) (h : c[k]? = some y) : (c.map V.int).set k (.int (y + s)) = (bump c k s).map V.int := by
  unfold bump
  rw [List.map_set, List.getD_eq_getElem?_getD, h]; rfl
theorem bump_Vs (c : List Int) (k : Nat) (s y : Int) (h : c[k]? = some y) : (c.map V.int).set k (.int (y - s)) = (bump c k (-s)).map V.int := by
  rw [Int.sub_eq_add_neg]
  exact bump_V c k (-s) y h
theorem ok_turned (D : Def K mg "turned" sTurned ["size", "row", "deeds"]) (B : Blt mg) (GS : Callee P w K mg base 2 "check_size" ["size"] spSize) (GR : Callee P w K mg base 2 "check_row" ["size", "row"] (spRow K)) (GD : Callee P w K mg base 5 "check_deeds" ["dials", "deeds"] (spDeeds T K)) :
    Callee P w K mg base 6 "turned" ["size", "row", "deeds"] (spTurned T K) := by
  refine D.ok scTurned (fun vs H Q E h => ?_) (fun f cdv A outer s H vs Q E hr h => ?_)
  · obtain ⟨m, a, p, ns, as, ds, rfl, _⟩ := h
    rfl
  · obtain ⟨m, a, p, ns, as, ds, rfl, hS, hP, hD, hm, hR, hok, hl, hT, q⟩ := h
    have hr2 : Room 2 _ := hr.mono (by decide)
    refine ⟨_, pss_cons (ps_expr (pe_c GS hr2 (by rfl) (pa_cons (pv 0) pa_nil)))
      (pss_cons (ps_expr (pe_c GR hr2 (by rfl) (pa_cons (pv 0) (pa_cons (pv 1) pa_nil))))
      (pss_cons (ps_expr (pe_c GD hr (by rfl) (pa_cons (pe_callB call_len_seq (by rfl) B.len PySem.boot_len (pa_cons (pv 1) pa_nil)) (pa_cons (pv 2) pa_nil))))
      (pss_cons (ps_set (i := 3) scTurned.nd rfl (.inl rfl) (pe_op op_rep (pe_lst (pa_cons pe_int pa_nil)) (pe_op op_add (pe_callB call_len_seq (by rfl) B.len PySem.boot_len (pa_cons (pv 1) pa_nil)) pe_int)))
      (pss_cons (ps_for PassesOwn.never rfl (pi_list (pv 2)) (pg_tup (by rfl) (pgs_cons (pg_name (i := 4) scTurned.nd rfl (.inl rfl)) (pgs_cons (pg_name (i := 5) scTurned.nd rfl (.inl rfl)) (pgs_cons (pg_name (i := 6) scTurned.nd rfl (.inl rfl)) pgs_nil))))
        (pss_cons (ps_augS (pv 3) (pv 4) get_list (pv 6) ip_add set_list) (pss_one (ps_augS (pv 3) (pv 5) get_list (pv 6) ip_sub set_list))))
      (pss_cons (ps_set (i := 7) scTurned.nd rfl (.inl rfl) (pe_lst pa_nil))
      (pss_cons (ps_set (i := 8) scTurned.nd rfl (.inl rfl) pe_int)
      (pss_cons (ps_for PassesOwn.never rfl (pi_enum (by rfl) B.enumerate (pa_cons (pv 1) pa_nil)) (pg_tup (by rfl) (pgs_cons (pg_name (i := 9) scTurned.nd rfl (.inl rfl)) (pgs_cons (pg_name (i := 10) scTurned.nd rfl (.inl rfl)) pgs_nil)))
        (pss_cons (ps_aug (i := 8) scTurned.nd rfl (.inl rfl) (pe_ix ix_list (pv 3) (pv 9) (fun _ _ => rfl)) ip_add)
        (pss_one (ps_expr (pe_bm PySem.F.plainAttrs_list PySem.F.slot_list_append PySem.F.type_list_append mt_append (pv 7) (pa_cons (pe_op op_mod (pe_op op_add (pv 10) (pv 8)) (pv 0)) pa_nil))))))
      (pss_one (ps_ret (pv 7)))))))))), ?_⟩
    -- the checks
    refine ⟨_, rfl, m, rfl, hm, ?_⟩
    refine ⟨_, rfl, _, rfl, m, a, ns, rfl, hS, hR, ?_⟩
    refine ⟨_, rfl, a, _, rfl, .inl hS, _, rfl, _, p, as, ds, rfl, hP, hD, by rw [List.length_map]; exact hok, hT, fun H s0 => ?_⟩
    replace hS := s0.seq hS
    replace hP := s0.seq hP
    replace hD := hD.same s0
    replace q : ∀ H' q, Same H H' → H q = none → H' q = some (.lst ((behind m ns ds).map V.int)) → Q (.ref q) H' := fun H' z s n e => q H' z (s0.trans s) (s0.free n) e
    -- changes = [0] * (len(row) + 1)
    refine ⟨by show 1 ≤ sizeLine; decide, fun l hl1 => ?_⟩
    have s1 : Same H (upd H l (.lst [.int 0])) := same_new hl1
    refine ⟨_, rfl, a, _, rfl, .inl (s1.seq hS), _, _, rfl, rfl, l, _, _, rfl, rfl, upd_same, ?_, ?_, ?_, fun c hc => ?_⟩
    · rw [List.length_map]; omega
    · rw [List.length_map]; omega
    · rw [List.length_map]
      exact line_of (by show ([V.int 0] : List V).length * _ ≤ _; simp only [List.length_cons, List.length_nil]; omega)
    have s2 : Same H (upd (upd H l (.lst [.int 0])) c (.lst (List.replicate (((ns.map V.int).length : Int) + 1).toNat [V.int 0]).flatten)) := s1.trans (same_new hc)
    have ec : (List.replicate (((ns.map V.int).length : Int) + 1).toNat [V.int 0]).flatten = (marks ns.length []).map V.int := by
      rw [List.length_map, show ((ns.length : Int) + 1).toNat = ns.length + 1 by omega]
      unfold marks
      show _ = (List.replicate (ns.length + 1) (0 : Int)).map V.int
      rw [List.map_replicate, List.flatten_replicate_singleton]
    have hcH : H c = none := s1.free hc
    -- the stretches' ends
    refine ⟨_, rfl, p, rfl, ⟨_, s2.seq hP⟩, for_list (K := K) (a := p) (xs := as.map V.ref)
      (fun i σ H2 => (∃ x4 x5 x6, σ = [some (.int m), some (.ref a), some (.ref p), some (.ref c), x4, x5, x6, none, none, none, none]) ∧ Same H H2 ∧ H2 c = some (.lst ((marks ns.length (ds.take i)).map V.int)))
      ⟨⟨none, none, none, rfl⟩, s2, by rw [upd_same, ec]; rfl⟩ (fun i σ H2 _ h => h.2.1.seq hP) ?_ ?_⟩
    · rintro i y σ H2 hi ⟨⟨x4, x5, x6, rfl⟩, sm, hc2⟩
      obtain ⟨t, ht, rfl⟩ := ref_at hi
      obtain ⟨⟨x, y, z⟩, hd, hT⟩ := hD.at_ i t ht
      obtain ⟨g1, g2, g3, g4⟩ := hok (x, y, z) (List.mem_of_getElem? hd)
      have g1' : 0 ≤ x := g1
      have g2' : x < y := g2
      have g3' : y ≤ (ns.length : Int) := g3
      obtain ⟨xn, rfl⟩ : ∃ k : Nat, x = (k : Int) := ⟨x.toNat, by omega⟩
      obtain ⟨yn, rfl⟩ : ∃ k : Nat, y = (k : Int) := ⟨y.toNat, by omega⟩
      have hlen := marks_length ns.length (ds.take i)
      have hx : xn < (marks ns.length (ds.take i)).length := by omega
      have hy : yn < (bump (marks ns.length (ds.take i)) xn z).length := by rw [bump_length]; omega
      have vx := List.getElem?_eq_getElem hx
      have vy := List.getElem?_eq_getElem hy
      refine ⟨t, _, rfl, .inl (.inl (sm _ _ hT)), rfl, _, _, rfl, _, _, rfl, _, _, rfl, rfl, ?_⟩
      refine ⟨_, rfl, _, rfl, c, _, _, _, rfl, rfl, SqL.of hc2, g1, atI_nat (at_map vx), _, rfl, _, _, rfl, rfl, c, _, _, xn, rfl, rfl, hc2, ixN_nat (by rw [List.length_map]; exact hx), ?_⟩
      rw [bump_V _ _ _ _ vx]
      refine ⟨_, rfl, _, rfl, c, _, _, _, rfl, rfl, SqL.of upd_same, by omega, atI_nat (at_map vy), _, rfl, _, _, rfl, rfl, c, _, _, yn, rfl, rfl, upd_same, ixN_nat (by rw [List.length_map]; exact hy), ?_⟩
      refine ⟨⟨_, _, _, rfl⟩, smut (smut sm hcH) hcH, ?_⟩
      rw [upd_same, take_snoc hd, marks_snoc]
      exact congrArg (fun q => some (HO.lst q)) (bump_Vs _ _ _ _ vy)
    · rintro σ H2 ⟨⟨x4, x5, x6, rfl⟩, sm, hc2⟩
      have ed : ds.take (as.map V.ref).length = ds := List.take_of_length_le (by rw [List.length_map, hD.len]; exact Nat.le_refl _)
      rw [ed] at hc2
      -- behind = []; turn = 0
      refine ⟨Nat.zero_le _, fun b hb => ?_⟩
      have hbH : H b = none := sm.free hb
      have hbc : c ≠ b := ne_of_none hc2 hb
      refine ⟨_, rfl, a, _, rfl, (smut sm hbH).seq hS, for_it (walk_enum (K := K) (a := a) (xs := ns.map V.int))
        (fun i σ H3 => (∃ x4 x5 x6 x9 x10, σ = [some (.int m), some (.ref a), some (.ref p), some (.ref c), x4, x5, x6, some (.ref b), some (.int ((marks ns.length ds).take i).sum), x9, x10]) ∧ Same H H3 ∧
          H3 c = some (.lst ((marks ns.length ds).map V.int)) ∧ H3 b = some (.lst (((behind m ns ds).take i).map V.int)))
        ⟨⟨_, _, _, _, _, rfl⟩, smut sm hbH, by rw [upd_ne hbc]; exact hc2, upd_same⟩ (fun i σ H3 _ h => h.2.1.seq hS) ?_ ?_⟩
      · rintro i y σ H3 H4 hi ⟨⟨y4, y5, y6, y9, y10, rfl⟩, sm3, hc3, hb3⟩ ⟨t, u, v, rfl, nt, rfl, hu, hv⟩
        obtain ⟨z, hz, rfl⟩ := map_at hv
        cases hu
        have sm4 := sm3.trans (same_new (o := .tup [.int ((i : Nat) : Int), .int z]) nt)
        have hc4 : (upd H3 t (.tup [.int ((i : Nat) : Int), .int z])) c = some (.lst ((marks ns.length ds).map V.int)) := by rw [upd_ne (ne_of_none hc3 nt)]; exact hc3
        have hb4 : (upd H3 t (.tup [.int ((i : Nat) : Int), .int z])) b = some (.lst (((behind m ns ds).take i).map V.int)) := by rw [upd_ne (ne_of_none hb3 nt)]; exact hb3
        have hil := at_lt hz
        have hx : i < (marks ns.length ds).length := by rw [marks_length]; omega
        have vx := List.getElem?_eq_getElem hx
        have es : ((marks ns.length ds).take i).sum + (marks ns.length ds)[i] = cover ds i := by
          rw [← sum_take vx]
          exact marks_take hok i
        refine ⟨t, _, rfl, .inl (.inl upd_same), rfl, _, _, rfl, _, _, rfl, rfl, ?_⟩
        refine ⟨_, rfl, _, rfl, _, rfl, c, _, _, _, rfl, rfl, SqL.of hc4, atI_nat (at_map vx), _, _, rfl, rfl, ?_⟩
        refine ⟨_, rfl, .inl ⟨rfl, _, SqL.of hb4⟩, _, rfl, _, rfl, _, _, rfl, rfl, _, rfl, _, _, rfl, rfl, (show (0 : Int) < m by omega), b, _, _, rfl, rfl, hb4, ?_, ?_⟩
        · rw [List.length_map, List.length_take]
          exact line_lt (by omega)
        · refine ⟨⟨y4, y5, y6, some (.int ((i : Nat) : Int)), some (.int z), ?_⟩, smut sm4 hbH, ?_, ?_⟩
          · rw [sum_take vx]; rfl
          · rw [upd_ne hbc]; exact hc4
          · rw [upd_same]
            show some (HO.lst (((behind m ns ds).take i).map V.int ++ [V.int ((z + (((marks ns.length ds).take i).sum + (marks ns.length ds)[i])) % m)])) = _
            have eb : (behind m ns ds)[i]? = some ((z + cover ds i) % m) := by rw [behind_get, hz]; rfl
            rw [es, take_snoc eb, List.map_append]
            rfl
      · rintro σ H3 ⟨⟨y4, y5, y6, y9, y10, rfl⟩, sm3, hc3, hb3⟩
        have eb : (behind m ns ds).take (ns.map V.int).length = behind m ns ds := List.take_of_length_le (by rw [List.length_map, behind_length]; exact Nat.le_refl _)
        rw [eb] at hb3
        exact ⟨_, rfl, q H3 b sm3 hbH hb3⟩
end
end DR
namespace DR
open PySem PySem.Spec PyProof.Rows L2
def spSteps (T : List Addr) (K : PySem.W.Frag) : Sp := fun vs H Q _ => ∃ (p : Addr) (as : List Addr) (ds : List Deed), vs = [.ref p] ∧ SqL K H p (as.map V.ref) ∧ DsAt H as ds ∧ Tabs T H ∧ ∀ H', Same H H' → Q (.int (steps ds)) H'
def spGaps (K : PySem.W.Frag) : Sp := fun vs H Q _ => ∃ (m : Int) (a b : Addr) (xs ys : List Int), vs = [.int m, .ref a, .ref b] ∧ SqL K H a (xs.map V.int) ∧ SqL K H b (ys.map V.int) ∧ xs.length = ys.length ∧ xs.length ≤ 1000 ∧ 0 < m ∧
  ∀ H' p, Same H H' → H p = none → H' p = some (.lst (((raw xs ys).map (· % m)).map V.int)) → Q (.ref p) H'
def spLesser (T : List Addr) (K : PySem.W.Frag) : Sp := fun vs H Q _ => ∃ (m k : Int) (p : Addr) (gs : List Int), vs = [.int m, .ref p, .int k] ∧ SqL K H p (gs.map V.int) ∧ Tabs T H ∧ (∀ g ∈ gs, 0 ≤ g ∧ g < m) ∧ 0 ≤ k ∧ k ≤ m ∧ m < 2 ^ 200 ∧ ∀ H', Same H H' → Q (.int (bound m k gs)) H'
theorem min_if (y z : Int) : (if z < y then z else y) = min y z := by
  rw [Int.min_def]; split <;> split <;> omega
section
variable {P : Program} {w : World} {K : PySem.W.Frag} {mg : Str → Option Value} {base : Heap} {T : List Addr} {c PA : Addr}
theorem scSteps : FnScope ["deeds"] ["deeds"] (defScope sSteps) := ⟨rfl, rfl, rfl, by decide +kernel, rfl, by decide +kernel, by decide +kernel⟩
theorem ok_steps (D : DefT K mg "steps_of" sSteps ["deeds"] c) (TB : GxR.TabB base mg c PA) (hT : PA ∈ T) (B : Blt mg) (B2 : Blt2 mg) : Callee P w K mg base 2 "steps_of" ["deeds"] (spSteps T K) := by
  refine D.ok scSteps (fun vs H Q E h => ?_) (fun f A outer s H vs Q E hr h => ?_)
  · obtain ⟨p, as, ds, rfl, _⟩ := h
    rfl
  · obtain ⟨p, as, ds, rfl, hS, hD, ht, q⟩ := h
    have nd3 : (["first", "end", "steps"] : List Str).Nodup := by decide +kernel
    refine ⟨_, pss_one (ps_ret (pe_sumG (k := 0) (tn := 3) (js := []) (N := ["first", "end", "steps"]) (g := gTup K 3 (gCons (gName 0) (gCons (gName 1) (gCons (gName 2) gNil)))) hr (by rfl) B.sum TB rfl (gsc_by (sc := defScope sSteps) (XN := ["deeds"]) rfl rfl (by decide +kernel)) (pv 0)
      (fun _ _ _ _ _ _ _ _ => pg_tup (by rfl) (pgs_cons (pg_name (i := 0) nd3 rfl (.inl rfl)) (pgs_cons (pg_name (i := 1) nd3 rfl (.inl rfl)) (pgs_cons (pg_name (i := 2) nd3 rfl (.inl rfl)) pgs_nil))))
      (fun _ _ _ _ _ _ _ _ hr' => pe_callB call_abs (by rfl) B2.abs PyProof.Rows.boot_abs (pa_cons (pv 2) pa_nil)))), ?_⟩
    refine ⟨_, rfl, p, _, rfl, hS, ht PA hT, fun H2 s2 => ?_⟩
    refine ⟨fun ys σ' H' => (∃ x y z, σ' = [x, y, z]) ∧ Same H H' ∧ ys = ((ds.map fun d => ab d.2.2).take ys.length).map V.int, ds.map fun d => ab d.2.2, by rw [List.length_map, List.length_map, hD.len], ⟨⟨none, none, none, rfl⟩, s2, rfl⟩, fun ys σ' H' h => h.2.1.seq hS, fun ys σ' H' h => h.2.2, ?_, ?_⟩
    · rintro ys x σ' H' hx ⟨⟨x0, x1, x2, rfl⟩, s', hy⟩
      obtain ⟨t, ht', rfl⟩ := ref_at hx
      obtain ⟨⟨d1, d2, d3⟩, hd, hT'⟩ := (hD.same s').at_ _ t ht'
      refine ⟨t, _, rfl, .inl (.inl hT'), rfl, _, _, rfl, _, _, rfl, _, _, rfl, rfl, ?_⟩
      refine ⟨_, rfl, d3, rfl, ⟨_, _, _, rfl⟩, s', ?_⟩
      have e : (ds.map fun d => ab d.2.2)[ys.length]? = some (ab d3) := by rw [List.getElem?_map, hd]; rfl
      rw [List.length_append]
      show ys ++ [V.int (ab d3)] = ((ds.map fun d => ab d.2.2).take (ys.length + 1)).map V.int
      rw [take_snoc e, List.map_append, ← hy]
      rfl
    · rintro ys σ' H' hl ⟨_, s', hy⟩
      exact q H' s'
theorem scGaps : FnScope ["size", "one", "other", "gaps", "ahead", "figure", "wanted", "turn"] ["size", "one", "other"] (defScope sGaps) := ⟨rfl, rfl, rfl, by decide +kernel, rfl, by decide +kernel, by decide +kernel⟩
theorem ok_gaps (D : Def K mg "gaps_between" sGaps ["size", "one", "other"]) (B2 : Blt2 mg) : Callee P w K mg base 1 "gaps_between" ["size", "one", "other"] (spGaps K) := by
  refine D.ok scGaps (fun vs H Q E h => ?_) (fun f cdv A outer s H vs Q E hr h => ?_)
  · obtain ⟨m, a, b, xs, ys, rfl, _⟩ := h
    rfl
  · obtain ⟨m, a, b, xs, ys, rfl, hA, hB, hl, hle, hm, q⟩ := h
    refine ⟨_, pss_cons (ps_set (i := 3) scGaps.nd rfl (.inl rfl) (pe_lst pa_nil))
      (pss_cons (ps_set (i := 4) scGaps.nd rfl (.inl rfl) pe_int)
      (pss_cons (ps_for PassesOwn.never rfl (pi_zip (by rfl) B2.zip (pa_cons (pv 1) (pa_cons (pv 2) pa_nil))) (pg_tup (by rfl) (pgs_cons (pg_name (i := 5) scGaps.nd rfl (.inl rfl)) (pgs_cons (pg_name (i := 6) scGaps.nd rfl (.inl rfl)) pgs_nil)))
        (pss_cons (ps_set (i := 7) scGaps.nd rfl (.inl rfl) (pe_op op_sub (pv 6) (pv 5)))
        (pss_cons (ps_expr (pe_bm PySem.F.plainAttrs_list PySem.F.slot_list_append PySem.F.type_list_append mt_append (pv 3) (pa_cons (pe_op op_mod (pe_op op_sub (pv 7) (pv 4)) (pv 0)) pa_nil)))
        (pss_one (ps_set (i := 4) scGaps.nd rfl (.inl rfl) (pv 7))))))
      (pss_cons (ps_expr (pe_bm PySem.F.plainAttrs_list PySem.F.slot_list_append PySem.F.type_list_append mt_append (pv 3) (pa_cons (pe_op op_mod (pe_op op_sub pe_int (pv 4)) (pv 0)) pa_nil)))
      (pss_one (ps_ret (pv 3)))))), ?_⟩
    refine ⟨Nat.zero_le _, fun l hl0 => ?_⟩
    -- the turns, nought ahead
    have hz : (List.zipWith (fun x y : Int => y - x) xs ys).length = xs.length := by rw [List.length_zipWith, hl]; exact Nat.min_self _
    generalize etz : (0 : Int) :: List.zipWith (fun x y : Int => y - x) xs ys = tz
    have htl : tz.length = xs.length + 1 := by rw [← etz, List.length_cons, hz]
    have er : raw xs ys = diffs (tz ++ [0]) := by
      unfold raw turns
      rw [← etz]
      rfl
    have dl : ∀ i, i ≤ xs.length → (diffs (tz.take (i + 1))).length = i := fun i hi => by
      rw [diffs_length, List.length_take, htl, Nat.min_eq_left (by omega)]
      rfl
    refine ⟨_, rfl, _, rfl, a, b, _, _, rfl, (same_new hl0).seq hA, (same_new hl0).seq hB, for_it (walk_zip (K := K) (a := a) (b := b) (xs := xs.map V.int) (ys := ys.map V.int) (n := xs.length) (by rw [List.length_map, List.length_map, hl]; exact (Nat.min_self _).symm))
      (fun i σ H2 => (∃ t x5 x6 x7, tz[i]? = some t ∧ σ = [some (.int m), some (.ref a), some (.ref b), some (.ref l), some (.int t), x5, x6, x7]) ∧ Same H H2 ∧ H2 l = some (.lst (((diffs (tz.take (i + 1))).map (· % m)).map V.int)))
      ⟨⟨0, none, none, none, by rw [← etz]; rfl, rfl⟩, same_new hl0, ?_⟩ (fun i σ H2 _ h => ⟨h.2.1.seq hA, h.2.1.seq hB⟩) ?_ ?_⟩
    · rw [upd_same, ← etz]
      rfl
    · rintro i x σ H2 H3 hi ⟨⟨t, x5, x6, x7, ht, rfl⟩, sm, hl2⟩ ⟨U, u, v, rfl, nU, rfl, hu, hv⟩
      obtain ⟨x, hx, rfl⟩ := map_at hu
      obtain ⟨y, hy, rfl⟩ := map_at hv
      have sU : Same H2 (upd H2 U (.tup [.int x, .int y])) := same_new nU
      have e : tz[i + 1]? = some (y - x) := by rw [← etz, List.getElem?_cons_succ, List.getElem?_zipWith, hx, hy]
      refine ⟨U, _, rfl, .inl (.inl upd_same), rfl, _, _, rfl, _, _, rfl, rfl, ?_⟩
      refine ⟨_, rfl, _, rfl, y, x, rfl, rfl, ?_⟩
      refine ⟨_, rfl, .inl ⟨rfl, _, SqL.of (sU _ _ hl2)⟩, _, rfl, _, rfl, _, _, rfl, rfl, _, rfl, _, m, rfl, rfl, hm, l, _, _, rfl, rfl, sU _ _ hl2, ?_, ?_⟩
      · rw [List.length_map, List.length_map, dl i (by omega)]
        exact line_lt (by omega)
      refine ⟨_, rfl, ⟨y - x, _, _, _, e, rfl⟩, smut (sm.trans sU) hl0, ?_⟩
      rw [upd_same, take_snoc e, take_snoc ht]
      have := diffs_snoc2 (l := tz.take i) (x := t) (y := y - x)
      rw [this, List.map_append, List.map_append]
      rfl
    · rintro σ H2 ⟨⟨t, x5, x6, x7, ht, rfl⟩, sm, hl2⟩
      refine ⟨_, rfl, .inl ⟨rfl, _, SqL.of hl2⟩, _, rfl, 0, t, rfl, rfl, _, rfl, _, m, rfl, rfl, hm, l, _, _, rfl, rfl, hl2, ?_, ?_⟩
      · rw [List.length_map, List.length_map, dl _ (Nat.le_refl _)]
        exact line_lt (by omega)
      refine ⟨_, rfl, q _ l (smut sm hl0) hl0 ?_⟩
      rw [upd_same, er]
      have e2 : tz = tz.take xs.length ++ [t] := by
        rw [← take_snoc ht, List.take_of_length_le (by omega)]
      have e3 := diffs_snoc2 (l := tz.take xs.length) (x := t) (y := 0)
      rw [← e2] at e3
      rw [e3, List.take_of_length_le (show tz.length ≤ xs.length + 1 by omega), List.map_append, List.map_append]
      rfl
theorem scLesser : FnScope ["size", "gaps", "mark"] ["size", "gaps", "mark"] (defScope sLesser) := ⟨rfl, rfl, rfl, by decide +kernel, rfl, by decide +kernel, by decide +kernel⟩
theorem ok_lesser (D : DefT K mg "lesser_sum" sLesser ["size", "gaps", "mark"] c) (TB : GxR.TabB base mg c PA) (hT : PA ∈ T) (B : Blt mg) (B2 : Blt2 mg) : Callee P w K mg base 2 "lesser_sum" ["size", "gaps", "mark"] (spLesser T K) := by
  refine D.ok scLesser (fun vs H Q E h => ?_) (fun f A outer s H vs Q E hr h => ?_)
  · obtain ⟨m, k, p, gs, rfl, _⟩ := h
    rfl
  · obtain ⟨m, k, p, gs, rfl, hS, ht, hg, hk0, hkm, hmx, q⟩ := h
    have nd3 : (["gap", "size", "mark"] : List Str).Nodup := by decide +kernel
    refine ⟨_, pss_one (ps_ret (pe_sumG (k := 0) (tn := 1) (js := [0, 2]) (N := ["gap", "size", "mark"]) (g := gName 0) hr (by rfl) B.sum TB rfl (gsc_by (sc := defScope sLesser) (XN := ["size", "gaps", "mark"]) rfl rfl (by decide +kernel)) (pv 1)
      (fun _ _ _ _ _ _ _ _ => pg_name (i := 0) nd3 rfl (.inl rfl))
      (fun _ _ _ _ _ _ _ _ hr' => pe_callB (call_min2 rfl) (by rfl) B2.min PyProof.Rows.boot_min (pa_cons (pe_op op_mulB (pe_op op_sub (pv 1) (pv 2)) (pv 0)) (pa_cons (pe_op op_mulB (pv 2) (pe_op op_sub (pv 1) (pv 0))) pa_nil))))), ?_⟩
    refine ⟨_, rfl, p, _, rfl, hS, ht PA hT, fun H2 s2 => ?_⟩
    refine ⟨fun ys σ' H' => (∃ x, σ' = [x, some (.int m), some (.int k)]) ∧ Same H H' ∧ ys = ((gs.map (least m k)).take ys.length).map V.int, gs.map (least m k), by rw [List.length_map, List.length_map], ⟨⟨none, rfl⟩, s2, rfl⟩, fun ys σ' H' h => h.2.1.seq hS, fun ys σ' H' h => h.2.2, ?_, ?_⟩
    · rintro ys x σ' H' hx ⟨⟨x0, rfl⟩, s', hy⟩
      obtain ⟨g, hg', rfl⟩ := map_at hx
      obtain ⟨g0, g1⟩ := hg g (List.mem_of_getElem? hg')
      have small : ∀ z : Int, 0 ≤ z → z ≤ m → Builtin.Int.intBits z ≤ 200 := fun z h0 h => small_of h0 (Int.lt_of_le_of_lt h hmx)
      have hmul : ∀ y z : Int, 0 ≤ y → y ≤ m → 0 ≤ z → z ≤ m → CMulB y z := fun y z a b c d => IntMulOk.of_le (small y a b) (small z c d) (by decide)
      refine ⟨_, rfl, _, rfl, m, k, rfl, rfl, _, rfl, m - k, g, rfl, rfl, hmul _ _ (by omega) (by omega) g0 (by omega), _, rfl, _, rfl, _, rfl, m, g, rfl, rfl, k, _, rfl, rfl, hmul _ _ hk0 hkm (by omega) (by omega), _, _, rfl, ⟨_, rfl⟩, s', ?_⟩
      have e : (gs.map (least m k))[ys.length]? = some (least m k g) := by rw [List.getElem?_map, hg']; rfl
      rw [List.length_append]
      show ys ++ [V.int (if k * (m - g) < (m - k) * g then k * (m - g) else (m - k) * g)] = ((gs.map (least m k)).take (ys.length + 1)).map V.int
      rw [take_snoc e, List.map_append, ← hy, min_if]
      rfl
    · rintro ys σ' H' hl ⟨_, s', hy⟩
      exact q H' s'
end
end DR
namespace DR
open PySem PySem.Spec PyProof.Rows L2
/-! ### answers -/
/-- what the walk asks of the class Best at C -/
structure BestCls (K : PySem.W.Frag) (mg : Str → Option Value) (C : Addr) : Prop where
  cl : Cls K C
  nD : NoAttr K C "deeds"
  nM : NoAttr K C "mark"
  g : mg "Best" = some (.ref C)
  ha : PySem.W.findIn K (.ref C) "__class__" = some (some (.builtin "object.__class__"))
  hn : PySem.W.specialIn K (.builtin "object.__class__") "__get__" = some (some (.builtin "getset_descriptor.__get__"))
  htk : PySem.W.takesIn K (.builtin "object.__class__") = some true
  hm : PySem.W.mroIn K C (.type "object") = some true
/-- an answer stands at x: its deeds are the list at p, its mark is k -/
structure BestAt (C : Addr) (H : Hp) (x p : Addr) (as : List Addr) (ds : List Deed) (k : Int) : Prop where
  ob : ∃ dx fs, H x = some (.ins C dx fs) ∧ fs.lookup ("deeds" : Str) = some (.ref p) ∧ fs.lookup ("mark" : Str) = some (.int k) ∧ fs.lookup ("shows" : Str) = none
  lst : H p = some (.lst (as.map V.ref))
  tups : DsAt H as ds
theorem BestAt.same {C : Addr} {H H' : Hp} {x p : Addr} {as : List Addr} {ds : List Deed} {k : Int} (h : BestAt C H x p as ds k) (s : Same H H') : BestAt C H' x p as ds k := by
  obtain ⟨⟨dx, fs, e, r⟩, l, t⟩ := h
  exact ⟨⟨dx, fs, s _ _ e, r⟩, s _ _ l, t.same s⟩
theorem BestAt.ty {K : PySem.W.Frag} {mg : Str → Option Value} {C : Addr} {H : Hp} {x p : Addr} {as : List Addr} {ds : List Deed} {k : Int} (T : BestCls K mg C) (h : BestAt C H x p as ds k) : TyX K H (.ref x) (.ref C) := by
  obtain ⟨dx, fs, e, _⟩ := h.ob
  exact .base (.ins e T.cl T.ha T.hn T.htk T.hm)
/-- the list of deeds has one more -/
theorem BestAt.more {C : Addr} {H : Hp} {x p t : Addr} {as : List Addr} {ds : List Deed} {k : Int} {d : Deed} (h : BestAt C H x p as ds k) (ht : H t = some (.tup (tri d))) : BestAt C (upd H p (.lst ((as ++ [t]).map V.ref))) x p (as ++ [t]) (ds ++ [d]) k := by
  obtain ⟨⟨dx, fs, e, r⟩, l, tp⟩ := h
  refine ⟨⟨dx, fs, by rw [upd_ne (ne_of e l (by intro q; cases q))]; exact e, r⟩, upd_same, ?_⟩
  exact (tp.upd l).snoc (by rw [upd_ne (ne_of ht l (by intro q; cases q))]; exact ht)
/-! ### small numbers -/
def SmallD (ds : List Deed) : Prop := ds.length ≤ 5000 ∧ ∀ d ∈ ds, Builtin.Int.intBits d.1 ≤ 1000 ∧ Builtin.Int.intBits d.2.1 ≤ 1000 ∧ Builtin.Int.intBits d.2.2 ≤ 1000
theorem ab_nonneg (x : Int) : 0 ≤ ab x := by unfold ab; split <;> omega
theorem steps_le {N : Int} : ∀ {ds : List Deed}, (∀ d ∈ ds, ab d.2.2 ≤ N) → 0 ≤ N → steps ds ≤ N * ds.length
  | [], _, _ => by show (0 : Int) ≤ N * 0; omega
  | d :: r, h, h0 => by
    have ih := steps_le (N := N) (ds := r) (fun x hx => h x (List.mem_cons_of_mem _ hx)) h0
    have h1 := h d List.mem_cons_self
    rw [steps_cons, List.length_cons]
    have : N * ((r.length + 1 : Nat) : Int) = N * (r.length : Int) + N := by rw [Int.natCast_add, Int.mul_add]; omega
    omega
theorem steps_nonneg : ∀ ds : List Deed, 0 ≤ steps ds
  | [] => Int.le_refl _
  | d :: r => by
    rw [steps_cons]
    have := ab_nonneg d.2.2
    have := steps_nonneg r
    omega
theorem SmallD.bits {ds : List Deed} (h : SmallD ds) : Builtin.Int.intBits (steps ds) ≤ 1000000 := by
  have h1 : ∀ d ∈ ds, ab d.2.2 ≤ 2 ^ 1000 := by
    intro d hd
    have := (intBits_le_iff.mp (h.2 d hd).2.2)
    have e : ((2 ^ 1000 : Nat) : Int) = (2 : Int) ^ 1000 := Int.natCast_pow 2 1000
    rw [← e]
    unfold ab
    split <;> omega
  have p0 : (0 : Int) ≤ 2 ^ 1000 := by decide
  have h2 := steps_le h1 p0
  have h3 : (2 : Int) ^ 1000 * (ds.length : Int) ≤ 2 ^ 1000 * 5000 := Int.mul_le_mul_of_nonneg_left (by have := h.1; omega) p0
  have h4 : (2 : Int) ^ 1000 * 5000 < 2 ^ 1100 := by decide +kernel
  exact Nat.le_trans (small_of (n := 1100) (steps_nonneg ds) (by omega)) (by decide)
theorem mem_steps : ∀ {ds : List Deed} {d : Deed}, d ∈ ds → ab d.2.2 ≤ steps ds
  | e :: r, d, h => by
    rw [steps_cons]
    have a := ab_nonneg e.2.2
    have b := steps_nonneg r
    rcases List.mem_cons.mp h with q | q
    · rw [q]; omega
    · have := mem_steps q; omega
theorem cost_mod_le {m : Int} (hm : 0 < m) : ∀ r : List Int, cost (r.map (· % m)) ≤ m * r.length
  | [] => by show (0 : Int) ≤ m * 0; omega
  | x :: r => by
    have ih := cost_mod_le hm r
    have h1 := Int.emod_lt_of_pos x hm
    have h0 := Int.emod_nonneg x (show m ≠ 0 by omega)
    rw [List.map_cons, cost_cons, List.length_cons]
    have : m * ((r.length + 1 : Nat) : Int) = m * (r.length : Int) + m := by rw [Int.natCast_add, Int.mul_add]; omega
    have e : pos (x % m) = x % m := by unfold pos; rw [if_pos h0]
    omega
theorem bound_small {m k : Int} (hm : 0 < m) (h0 : 0 ≤ k) (h1 : k ≤ m) : ∀ g : List Int, (∀ x ∈ g, 0 ≤ x ∧ x < m) → bound m k g ≤ m * (m * g.length)
  | [], _ => by show (0 : Int) ≤ m * (m * 0); omega
  | x :: g, h => by
    have ih := bound_small hm h0 h1 g fun y hy => h y (List.mem_cons_of_mem _ hy)
    obtain ⟨x0, x1⟩ := h x List.mem_cons_self
    rw [bound_cons, List.length_cons]
    have a : least m k x ≤ m * m := by
      unfold least
      have := Int.min_le_left ((m - k) * x) (k * (m - x))
      have b : (m - k) * x ≤ m * x := Int.mul_le_mul_of_nonneg_right (by omega) x0
      have c : m * x ≤ m * m := Int.mul_le_mul_of_nonneg_left (by omega) (by omega)
      omega
    have : m * (m * ((g.length + 1 : Nat) : Int)) = m * (m * (g.length : Int)) + m * m := by
      rw [Int.natCast_add, Int.mul_add, Int.mul_add]; congr 1
      show m * (m * 1) = m * m
      rw [Int.mul_one]
    omega
/-- what is right takes few steps -/
theorem Right.small {m : Int} {a b : List Int} {ds : List Deed} {k : Int} (hm : 0 < m) (hmx : m < 2 ^ 200) (hl : a.length ≤ 1000) (hd : ds.length ≤ 2000) (h : Right m a b ds k) : SmallD ds := by
  obtain ⟨h1, h2, h3, h4, h5⟩ := h
  refine ⟨by omega, fun d hd => ?_⟩
  have hlen : a.length = b.length := by rw [← h2, behind_length]
  obtain ⟨g1, g2, g3, g4⟩ := h1 d hd
  have q := bound_small (g := (raw a b).map (· % m)) hm h3 h4 fun x hx => by
    obtain ⟨y, _, e⟩ := List.mem_map.mp hx
    rw [← e]
    exact ⟨Int.emod_nonneg _ (by omega), Int.emod_lt_of_pos _ hm⟩
  rw [← h5, List.length_map, raw_length hlen] at q
  have q2 := Int.le_of_mul_le_mul_left q hm
  have q3 : m * ((a.length + 1 : Nat) : Int) ≤ m * 1001 := Int.mul_le_mul_of_nonneg_left (by omega) (by omega)
  have q4 := mem_steps hd
  have p : (2 : Int) ^ 200 * 1001 < 2 ^ 250 := by decide +kernel
  have q5 : m * 1001 ≤ 2 ^ 200 * 1001 := by omega
  have small : ∀ x : Int, ab x < 2 ^ 250 → Builtin.Int.intBits x ≤ 1000 := by
    intro x hx
    have : Builtin.Int.intBits x ≤ 250 := by
      rw [intBits_le_iff]
      have e : ((2 ^ 250 : Nat) : Int) = (2 : Int) ^ 250 := Int.natCast_pow 2 250
      rw [← e] at hx
      unfold ab at hx
      split at hx <;> omega
    omega
  have p2 : (1000 : Int) < 2 ^ 250 := by decide +kernel
  refine ⟨small _ ?_, small _ ?_, small _ (by omega)⟩
  · unfold ab; split <;> omega
  · unfold ab; split <;> omega
theorem SmallD.append {ds es : List Deed} (h : SmallD ds) (k : SmallD es) (hl : ds.length + es.length ≤ 5000) : SmallD (ds ++ es) :=
  ⟨by rw [List.length_append]; exact hl, fun d hd => (List.mem_append.mp hd).elim (h.2 d) (k.2 d)⟩
/-! ### what the program's defs promise -/
/-- rows of a size, asked together -/
structure Asked (Tb : List Addr) (K : PySem.W.Frag) (H : Hp) (m : Int) (a b : Addr) (xs ys : List Int) : Prop where
  one : SqL K H a (xs.map V.int)
  other : SqL K H b (ys.map V.int)
  len : xs.length = ys.length
  few : xs.length ≤ 1000
  two : 2 ≤ m
  big : m < 2 ^ 200
  rone : RowOk m xs
  rother : RowOk m ys
  tab : Tabs Tb H
theorem Asked.same {Tb : List Addr} {K : PySem.W.Frag} {H H' : Hp} {m : Int} {a b : Addr} {xs ys : List Int} (h : Asked Tb K H m a b xs ys) (s : Same H H') : Asked Tb K H' m a b xs ys := ⟨s.seq h.one, s.seq h.other, h.len, h.few, h.two, h.big, h.rone, h.rother, h.tab.same s⟩
theorem RowOk.drop {m : Int} {xs : List Int} (h : RowOk m xs) (n : Nat) : RowOk m (xs.drop n) := fun x hx => h x (List.mem_of_mem_drop hx)
theorem RowOk.take {m : Int} {xs : List Int} (h : RowOk m xs) (n : Nat) : RowOk m (xs.take n) := fun x hx => h x (List.mem_of_mem_take hx)
theorem RowOk.reverse {m : Int} {xs : List Int} (h : RowOk m xs) : RowOk m xs.reverse := fun x hx => h x (List.mem_reverse.mp hx)
theorem Callee.mono {P : Program} {w : World} {K : PySem.W.Frag} {mg : Str → Option Value} {base : Heap} {j k : Nat} {x : Str} {ps : List Str} {sp : Sp} (C : Callee P w K mg base j x ps sp) (h : j ≤ k) : Callee P w K mg base k x ps sp := by
  obtain ⟨f, fd, h1, h2, h3, lk, h4⟩ := C
  exact ⟨f, fd, h1, h2, h3, lk, h4.mono h⟩
def spBest (Tb : List Addr) (K : PySem.W.Frag) (C : Addr) : Sp := fun vs H Q _ => ∃ (m : Int) (a b : Addr) (xs ys : List Int), vs = [.int m, .ref a, .ref b] ∧ Asked Tb K H m a b xs ys ∧
  ∀ H' x p as ds k, Same H H' → H x = none → H p = none → BestAt C H' x p as ds k → Right m xs ys ds k → ds.length ≤ 2000 → Q (.ref x) H'
def spApart (Tb : List Addr) (K : PySem.W.Frag) : Sp := fun vs H Q _ => ∃ (m : Int) (a b : Addr) (xs ys : List Int), vs = [.int m, .ref a, .ref b] ∧ Asked Tb K H m a b xs ys ∧
  ∀ H' v, Same H H' → (∃ ds k, Right m xs ys ds k ∧ steps ds = v) → Q (.int v) H'
theorem far_few {m v : Int} {xs ys : List Int} (hm : 0 < m) (h : ∃ ds k, Right m xs ys ds k ∧ steps ds = v) : Fewest m (raw xs ys) v := by
  obtain ⟨ds, k, h1, h2⟩ := h
  rw [← h2]
  exact h1.fewest hm
def spLevel (Tb : List Addr) (K : PySem.W.Frag) (C : Addr) : Sp := fun vs H Q _ => ∃ (m : Int) (a : Addr) (xs : List Int), vs = [.int m, .ref a] ∧ SqL K H a (xs.map V.int) ∧ xs.length ≤ 1000 ∧ 2 ≤ m ∧ m < 2 ^ 200 ∧ RowOk m xs ∧ Tabs Tb H ∧
  ∀ H' x p as ds k, Same H H' → H x = none → H p = none → BestAt C H' x p as ds k → Right m xs (List.replicate xs.length (xs.headD 0)) ds k → ds.length ≤ 2000 → Q (.ref x) H'
def spShows (Tb : List Addr) (K : PySem.W.Frag) (C : Addr) : Sp := fun vs H Q _ => ∃ (x : Addr) (m : Int) (a b p : Addr) (as : List Addr) (ds : List Deed) (k : Int) (xs ys : List Int), vs = [.ref x, .int m, .ref a, .ref b] ∧ BestAt C H x p as ds k ∧ Asked Tb K H m a b xs ys ∧
  SmallD ds ∧ Builtin.Int.intBits k ≤ 1000 ∧ ∀ H', Same H H' → Q (.bl (decide (Right m xs ys ds k))) H'
/-- the method m of the class at C keeps the promise sp -/
def CalleeM (P : Program) (w : World) (K : PySem.W.Frag) (mg : Str → Option Value) (base : Heap) (k : Nat) (C : Addr) (m : Str) (ps : List Str) (sp : Sp) : Prop :=
  Cls K C ∧ ∃ f fd, Meth K C m f ∧ Binds K fd ps [] ∧ FnOk P w K mg base CX0 k f fd ps sp
theorem pe_m {X : Cx} {k : Nat} {C : Addr} {m : Str} {ps : List Str} {sp : Sp} {o e : Expr} {es : List Expr} {apos pos : Pos} {ta : TE} {t : TA} {pl : Sem Bool} (G : CalleeM X.prog X.w X.K X.mg X.base k C m ps sp) (hr : Room k X.A) (he : PE X o ta) (ha : PA X (e :: es) t)
    (hst : starEach (e :: es) X.env = (false, eval e X.env) :: starEach es X.env := by rfl) (hpl : (backTo pos (starEach es X.env)).any (·.1) = false := by rfl)
    (ht : eval (.Call (.Attribute o m apos) (e :: es) [] pos) X.env = (do
      let ov ← eval o X.env
      standAt apos.atName
      let (f, first) ← holding [ov] (getMethod ov m pl)
      callWith pos f first (backTo pos (starEach (e :: es) X.env)) (backToKw pos (keywordEach [] X.env))) := by rfl) :
    PE X (.Call (.Attribute o m apos) (e :: es) [] pos) (tMeth C m sp [] E0 ta t) := by
  obtain ⟨cl, f, fd, hm, hb, F⟩ := G
  exact pe_meth he cl hm F hr hb .nil pass0 ha hst hpl ht
/-! ### a class that is made -/
def Makes (P : Program) (w : World) (K : PySem.W.Frag) (mg : Str → Option Value) (base : Heap) (k : Nat) (C : Addr) (ps : List Str) (sp : Sp) : Prop := ∃ f fd, Mk K C f ∧ Binds K fd ps [] ∧ FnOk P w K mg base CX0 k f fd ps sp
theorem pe_k {X : Cx} {k : Nat} {C : Addr} {x : Str} {ps : List Str} {sp : Sp} {p pos : Pos} {e : Expr} {es : List Expr} {t : TA} (G : Makes X.prog X.w X.K X.mg X.base k C ps sp) (hr : Room (k + 1) X.A) (hg : Gl X x) (hm : X.mg x = some (.ref C)) (ha : PA X (e :: es) t)
    (hdb : (x == ("__debug__" : Str)) = false := by decide) (he : starEach (e :: es) X.env = (false, eval e X.env) :: starEach es X.env := by rfl) (hpl : (backTo pos (starEach es X.env)).any (·.1) = false := by rfl) : PE X (.Call (.Name x p) (e :: es) [] pos) (tMake C sp [] E0 t) := by
  obtain ⟨f, fd, M, hb, F⟩ := G
  exact pe_make M F hr hg hm hb .nil pass0 ha hdb he hpl
def spInit (K : PySem.W.Frag) (C : Addr) : Sp := fun vs H Q _ => ∃ (x p dx : Addr) (as : List Addr) (ds : List Deed) (k : Int), vs = [.ref x, .ref p, .int k] ∧ H x = some (.ins C dx []) ∧ SqL K H p (as.map V.ref) ∧ DsAt H as ds ∧ ds.length ≤ 6000 ∧
  ∀ H' p' as', (∀ b u, b ≠ x → H b = some u → H' b = some u) → H p' = none → BestAt C H' x p' as' ds k → Q .non H'
theorem CalleeM.mono {P : Program} {w : World} {K : PySem.W.Frag} {mg : Str → Option Value} {base : Heap} {j k : Nat} {C : Addr} {m : Str} {ps : List Str} {sp : Sp} (G : CalleeM P w K mg base j C m ps sp) (h : j ≤ k) : CalleeM P w K mg base k C m ps sp := by
  obtain ⟨c, f, fd, h1, h2, h3⟩ := G
  exact ⟨c, f, fd, h1, h2, h3.mono h⟩
theorem Makes.mono {P : Program} {w : World} {K : PySem.W.Frag} {mg : Str → Option Value} {base : Heap} {j k : Nat} {C : Addr} {ps : List Str} {sp : Sp} (G : Makes P w K mg base j C ps sp) (h : j ≤ k) : Makes P w K mg base k C ps sp := by
  obtain ⟨f, fd, h1, h2, h3⟩ := G
  exact ⟨f, fd, h1, h2, h3.mono h⟩
theorem Same.past {H1 H3 H4 : Hp} {x : Addr} (w : Same H1 H3) (nx : H1 x = none) (k : ∀ b u, b ≠ x → H3 b = some u → H4 b = some u) : Same H1 H4 := by
  refine ⟨fun b o n e => k b o (fun z => by rw [z, nx] at e; cases e) (w.keep b o n e), fun b ps e => ?_⟩
  obtain ⟨m, e2, t⟩ := w.tab b ps e
  exact ⟨m, k b _ (fun z => by rw [z, nx] at e; cases e) e2, t⟩
end DR
namespace DR
open PySem PySem.Spec PyProof.Rows L2
/-- a method of the text stands where the class says -/
def DefM (K : PySem.W.Frag) (x qual : Str) (st : Stmt) (ps : List Str) (f : Addr) : Prop := ∃ fd, Fun K x qual st f fd ∧ Binds K fd ps []
theorem defM_mk {K : PySem.W.Frag} {x qual : Str} {st : Stmt} {ps : List Str} {f : Addr} {oc : Value} {od an : Option Addr} {osl : Array (Option Value)} {kV doc pm cdv ct : Value} (l : K.lookup f = some ⟨oc, od, .func (PySem.W.fnOf x qual (defArgs st) (defBody st) (defScope st) .none kV doc pm an cdv ct), osl⟩)
    (c : PySem.W.codeIn K cdv qual = true) (k : PySem.W.keepIn K (.ref f) = true)
    (hb : ∀ (kV doc pm : Value) (an : Option Addr) (cdv ct : Value) (us : List Value), us.length = ps.length → bindArgs (PySem.W.fnOf x qual (defArgs st) (defBody st) (defScope st) .none kV doc pm an cdv ct) ⟨us, []⟩ = pure (ps.zip us)) : DefM K x qual st ps f := ⟨_, fun_mk l c k, (fun_mk l c k).binds hb⟩
theorem gaps_ok {m : Int} (hm : 0 < m) {xs ys : List Int} : ∀ g ∈ (raw xs ys).map (· % m), 0 ≤ g ∧ g < m := fun g hg => by
  obtain ⟨y, _, e⟩ := List.mem_map.mp hg
  rw [← e]
  exact ⟨Int.emod_nonneg _ (by omega), Int.emod_lt_of_pos _ hm⟩
section
variable {P : Program} {w : World} {K : PySem.W.Frag} {mg : Str → Option Value} {base : Heap} {Tb : List Addr} {C f : Addr}
theorem scInit : FnScope ["self", "deeds", "mark"] ["self", "deeds", "mark"] (defScope cBest_init) := ⟨rfl, rfl, rfl, by decide +kernel, rfl, by decide +kernel, by decide +kernel⟩
theorem ok_init (D : DefM K "__init__" "Best.__init__" cBest_init ["self", "deeds", "mark"] f) (M : Mk K C f) (B : Blt mg) (T : BestCls K mg C) : Makes P w K mg base 1 C ["self", "deeds", "mark"] (spInit K C) := by
  obtain ⟨fd, F, b⟩ := D
  refine ⟨f, fd, M, b, F.ok scInit (fun vs H Q E h => ?_) (fun cdv A outer s H vs Q E hr h => ?_)⟩
  · obtain ⟨x, p, dx, as, ds, k, rfl, _⟩ := h
    rfl
  · obtain ⟨x, p, dx, as, ds, k, rfl, hx, hP, hD, hdl, q⟩ := h
    refine ⟨_, pss_cons (ps_fld (pv 0) (pe_callTy call_list_of (by rfl) B.list PyProof.Rows.boot_list (pa_cons (pv 1) pa_nil)) rfl) (pss_one (ps_fld (pv 0) (pv 2) rfl)), ?_⟩
    refine ⟨_, rfl, p, _, rfl, .inl hP, fun l hl => ?_⟩
    have hxl : x ≠ l := ne_of_none hx hl
    refine ⟨_, rfl, x, C, dx, [], rfl, by rw [upd_ne hxl]; exact hx, T.cl, T.nD, by decide, ?_⟩
    refine ⟨_, rfl, _, rfl, x, C, dx, _, rfl, upd_same, T.cl, T.nM, (show (1 : Nat) < 1000 by decide), ?_⟩
    refine q _ l as (fun b u hb e => ?_) hl ⟨⟨dx, _, upd_same, ?_, ?_, ?_⟩, ?_, ?_⟩
    · rw [upd_ne hb, upd_ne hb, upd_ne (ne_of_none e hl)]
      exact e
    · rw [lookup_putF, lookup_putF]
      rfl
    · rw [lookup_putF]
      rfl
    · rw [lookup_putF, lookup_putF]
      rfl
    · rw [upd_ne (Ne.symm hxl), upd_ne (Ne.symm hxl), upd_same]
    · refine ⟨hD.len, fun j a e => ?_⟩
      obtain ⟨d, h1, h2⟩ := hD.at_ j a e
      refine ⟨d, h1, ?_⟩
      have hax : a ≠ x := ne_of h2 hx (by intro z; cases z)
      rw [upd_ne hax, upd_ne hax, upd_ne (ne_of_none h2 hl)]
      exact h2
theorem scShows : FnScope ["self", "size", "one", "other"] ["self", "size", "one", "other"] (defScope cBest_shows) := ⟨rfl, rfl, rfl, by decide +kernel, rfl, by decide +kernel, by decide +kernel⟩
theorem ok_shows (D : DefM K "shows" "Best.shows" cBest_shows ["self", "size", "one", "other"] f) (M : Meth K C "shows" f) (B : Blt mg) (T : BestCls K mg C) (GA : Callee P w K mg base 4 "are_deeds" ["dials", "things"] (spAre Tb K)) (GT : Callee P w K mg base 6 "turned" ["size", "row", "deeds"] (spTurned Tb K))
    (GS : Callee P w K mg base 2 "steps_of" ["deeds"] (spSteps Tb K)) (GG : Callee P w K mg base 1 "gaps_between" ["size", "one", "other"] (spGaps K)) (GL : Callee P w K mg base 2 "lesser_sum" ["size", "gaps", "mark"] (spLesser Tb K)) :
    CalleeM P w K mg base 7 C "shows" ["self", "size", "one", "other"] (spShows Tb K C) := by
  obtain ⟨fd, F, b⟩ := D
  refine ⟨T.cl, f, fd, M, b, F.ok scShows (fun vs H Q E h => ?_) (fun cdv A outer s H vs Q E hr h => ?_)⟩
  · obtain ⟨x, m, a, b, p, as, ds, k, xs, ys, rfl, _⟩ := h
    rfl
  · obtain ⟨x, m, a, b, p, as, ds, k, xs, ys, rfl, hB, hK, hsm, hkb, q⟩ := h
    have hr4 : Room 4 _ := hr.mono (by decide)
    have hr2 : Room 2 _ := hr.mono (by decide)
    have hr1 : Room 1 _ := hr.mono (by decide)
    refine ⟨_, pss_cons (ps_if (PW.pt (pw_or (pt_not (pt_val (pe_c GA hr4 (by rfl) (pa_cons (pe_callB call_len_seq (by rfl) B.len PySem.boot_len (pa_cons (pv 2) pa_nil)) (pa_cons (pe_fld (pv 0) rfl) pa_nil)))))
        (pw_or1 (pt_cmpR (op_neD hr.units) (pe_c GT hr (by rfl) (pa_cons (pv 1) (pa_cons (pv 2) (pa_cons (pe_fld (pv 0) rfl) pa_nil)))) (pv 3) (nomark _))))) (pss_one (ps_ret pe_bl)) pss_nil)
      (pss_cons (ps_if (PW.pt (pw_or (pt_cmpR op_lt (pe_fld (pv 0) rfl) pe_int (nomark _)) (pw_or1 (pt_cmpR op_gt (pe_fld (pv 0) rfl) (pv 1) (nomark _))))) (pss_one (ps_ret pe_bl)) pss_nil)
      (pss_one (ps_ret (pe_cmpR op_eq (pe_op op_mulB (pv 1) (pe_c GS hr2 (by rfl) (pa_cons (pe_fld (pv 0) rfl) pa_nil)))
        (pe_c GL hr2 (by rfl) (pa_cons (pv 1) (pa_cons (pe_c GG hr1 (by rfl) (pa_cons (pv 1) (pa_cons (pv 2) (pa_cons (pv 3) pa_nil)))) (pa_cons (pe_fld (pv 0) rfl) pa_nil)))) (nomark _))))), ?_⟩
    have hm : 0 < m := by have := hK.two; omega
    have no : ∀ {H' : Hp}, Same H H' → ¬ Right m xs ys ds k → Q (.bl false) H' := fun {H'} s h => by
      have := q H' s
      rw [decide_eq_false h] at this
      exact this
    -- the fields, in any later heap
    have fD : ∀ {H' : Hp}, Same H H' → ∃ dx fs, H' x = some (.ins C dx fs) ∧ fs.lookup ("deeds" : Str) = some (.ref p) ∧ fs.lookup ("mark" : Str) = some (.int k) := fun {H'} s => by
      obtain ⟨dx, fs, e, e1, e2, _⟩ := (hB.same s).ob
      exact ⟨dx, fs, e, e1, e2⟩
    obtain ⟨dx, fs, eX, eD, eM⟩ := fD (Same.refl H)
    refine ⟨_, rfl, a, _, rfl, .inl hK.one, _, rfl, x, C, dx, fs, _, rfl, eX, T.cl, T.nD, eD, ?_⟩
    refine ⟨_, p, _, _, rfl, SqL.of hB.lst, hK.tab, looked_of hB.tups, fun H1 s1 => ⟨_, rfl, ?_⟩⟩
    rw [deeds_all, List.length_map]
    by_cases hok : DeedsOk xs.length ds
    · rw [decide_eq_true hok]
      refine iteF ?_
      obtain ⟨dx1, fs1, eX1, eD1, eM1⟩ := fD s1
      have hB1 := hB.same s1
      refine ⟨_, rfl, _, rfl, _, rfl, x, C, dx1, fs1, _, rfl, eX1, T.cl, T.nD, eD1, ?_⟩
      refine ⟨m, a, p, xs, as, ds, rfl, (hK.same s1).one, SqL.of hB1.lst, hB1.tups, hK.two, hK.rone, hok, hK.few, (hK.same s1).tab, fun H2 r s2 hr0 hr2' => ?_⟩
      have t2 := s1.trans s2
      refine ⟨_, rfl, dI _, dI ys, dp_lst (SqL.of hr2'), dp_lst (hK.same t2).other, sh_dI _, sh_dI _, _, rfl, ?_⟩
      rw [eqv_dI]
      by_cases hb : behind m xs ds = ys
      · rw [decide_eq_true hb]
        refine iteF ?_
        obtain ⟨dx2, fs2, eX2, eD2, eM2⟩ := fD t2
        refine ⟨_, rfl, x, C, dx2, fs2, _, rfl, eX2, T.cl, T.nM, eM2, k, 0, rfl, rfl, _, rfl, ?_⟩
        by_cases h0 : k < 0
        · rw [decide_eq_true h0]
          exact iteT (iteT (no t2 fun z => by have := z.2.2.1; omega))
        · rw [decide_eq_false h0]
          refine iteF ⟨_, rfl, x, C, dx2, fs2, _, rfl, eX2, T.cl, T.nM, eM2, _, rfl, k, m, rfl, rfl, _, rfl, ?_⟩
          by_cases h1 : m < k
          · rw [decide_eq_true h1]
            exact iteT (no t2 fun z => by have := z.2.2.2.1; omega)
          · rw [decide_eq_false h1]
            refine iteF ?_
            have hB2 := hB.same t2
            refine ⟨_, rfl, _, rfl, x, C, dx2, fs2, _, rfl, eX2, T.cl, T.nD, eD2, p, as, ds, rfl, SqL.of hB2.lst, hB2.tups, (hK.same t2).tab, fun H3 s3 => ?_⟩
            have t3 := t2.trans s3
            refine ⟨m, _, rfl, rfl, IntMulOk.of_le (m := 200) (small_of (by omega) hK.big) hsm.bits (by decide), ?_⟩
            refine ⟨_, rfl, _, rfl, _, rfl, _, rfl, m, a, b, xs, ys, rfl, (hK.same t3).one, (hK.same t3).other, hK.len, hK.few, hm, fun H4 g s4 hg0 hg4 => ?_⟩
            have t4 := t3.trans s4
            obtain ⟨dx4, fs4, eX4, eD4, eM4⟩ := fD t4
            refine ⟨_, rfl, x, C, dx4, fs4, _, rfl, eX4, T.cl, T.nM, eM4, m, k, g, _, rfl, SqL.of hg4, (hK.same t4).tab, gaps_ok hm, by omega, by omega, hK.big, fun H5 s5 => ⟨rfl, ?_⟩⟩
            have e : decide (V.int (m * steps ds) = V.int (bound m k ((raw xs ys).map (· % m)))) = decide (Right m xs ys ds k) :=
              decide_eq_decide.mpr ⟨fun z => ⟨hok, hb, by omega, by omega, V.int.inj z⟩, fun z => congrArg V.int z.2.2.2.2⟩
            have := q H5 (t4.trans s5)
            rw [← e] at this
            exact this
      · rw [decide_eq_false hb]
        exact iteT (no t2 fun z => hb z.2.1)
    · rw [decide_eq_false hok]
      exact iteT (no s1 fun z => hok z.1)
end
end DR
namespace DR
open PySem PySem.Spec PyProof.Rows L2
/-- pairs of numbers in the heap -/
structure PsAt (H : Hp) (as : List Addr) (ps : List (Int × Int)) : Prop where
  len : as.length = ps.length
  at_ : ∀ (j : Nat) (a : Addr), as[j]? = some a → ∃ p, ps[j]? = some p ∧ H a = some (.tup [.int p.1, .int p.2])
section
variable {H H' : Hp} {as bs : List Addr} {ps qs : List (Int × Int)} {a : Addr} {p : Int × Int}
theorem PsAt.same (h : PsAt H as ps) (s : Same H H') : PsAt H' as ps := ⟨h.len, fun j a e => let ⟨d, h1, h2⟩ := h.at_ j a e; ⟨d, h1, s _ _ h2⟩⟩
theorem PsAt.nil : PsAt H [] [] := ⟨rfl, fun j a e => by simp at e⟩
theorem PsAt.snoc (h : PsAt H as ps) (e : H a = some (.tup [.int p.1, .int p.2])) : PsAt H (as ++ [a]) (ps ++ [p]) := by
  refine ⟨by rw [List.length_append, List.length_append, h.len]; rfl, fun j b q => ?_⟩
  by_cases hj : j < as.length
  · rw [List.getElem?_append_left hj] at q
    obtain ⟨d, h1, h2⟩ := h.at_ j b q
    exact ⟨d, by rw [List.getElem?_append_left (by rw [← h.len]; exact hj)]; exact h1, h2⟩
  · rw [List.getElem?_append_right (by omega)] at q
    have hj0 : j - as.length = 0 := by
      have := (List.getElem?_eq_some_iff.mp q).1
      simp at this
      omega
    rw [hj0] at q
    have eb : a = b := by simpa using q
    subst eb
    refine ⟨p, ?_, e⟩
    rw [List.getElem?_append_right (by rw [← h.len]; omega), ← h.len, hj0]
    rfl
theorem PsAt.upd {c : Addr} {xs : List V} {o : HO} (h : PsAt H as ps) (hc : H c = some (.lst xs)) : PsAt (upd H c o) as ps := ⟨h.len, fun j b e => let ⟨d, h1, h2⟩ := h.at_ j b e; ⟨d, h1, by rw [upd_ne (ne_of h2 hc (by intro q; cases q))]; exact h2⟩⟩
theorem PsAt.dropLast (h : PsAt H (as ++ [a]) (ps ++ [p])) : PsAt H as ps ∧ H a = some (.tup [.int p.1, .int p.2]) := by
  have hl : as.length = ps.length := by have := h.len; rw [List.length_append, List.length_append] at this; simp at this; exact this
  refine ⟨⟨hl, fun j b e => ?_⟩, ?_⟩
  · have hj := (List.getElem?_eq_some_iff.mp e).1
    obtain ⟨d, h1, h2⟩ := h.at_ j b (by rw [List.getElem?_append_left hj]; exact e)
    rw [List.getElem?_append_left (by omega)] at h1
    exact ⟨d, h1, h2⟩
  · obtain ⟨d, h1, h2⟩ := h.at_ as.length a (by rw [List.getElem?_append_right (Nat.le_refl _), Nat.sub_self]; rfl)
    rw [hl, List.getElem?_append_right (Nat.le_refl _), Nat.sub_self] at h1
    have e : p = d := by simpa using h1
    rw [e]
    exact h2
end
/-- what a pair in the heap says -/
def pairOf (H : Hp) : V → Int × Int
  | .ref t => (match H t with
    | some (.tup [.int i, .int j]) => (i, j)
    | _ => (0, 0))
  | _ => (0, 0)
theorem pairOf_at {H : Hp} {t : Addr} {i j : Int} (h : H t = some (.tup [.int i, .int j])) : pairOf H (.ref t) = (i, j) := by
  show (match H t with | some (.tup [.int i, .int j]) => (i, j) | _ => ((0 : Int), (0 : Int))) = _
  rw [h]
theorem pairs_of {H : Hp} {as : List Addr} {gs : List Int} (h : PsAt H as (pairs gs)) : (as.map V.ref).map (pairOf H) = pairs gs := by
  refine List.ext_getElem? fun i => ?_
  rw [List.getElem?_map, List.getElem?_map]
  cases e : as[i]? with
  | none =>
    have := List.getElem?_eq_none_iff.mp e
    rw [List.getElem?_eq_none (by rw [← h.len]; exact this)]
    rfl
  | some a =>
    obtain ⟨p, h1, h2⟩ := h.at_ i a e
    rw [h1]
    show some (pairOf H (.ref a)) = some p
    rw [pairOf_at h2]
def spLeast (K : PySem.W.Frag) : Sp := fun vs H Q _ => ∃ (m : Int) (p : Addr) (gs : List Int) (q : Nat), vs = [.int m, .ref p] ∧ SqL K H p (gs.map V.int) ∧ 0 < m ∧ m < 2 ^ 200 ∧ gs.sum = m * q ∧ gs.sum / m = (q : Int) ∧ q < gs.length ∧ gs.length ≤ 1001 ∧
  ∀ H' t c cs k, Same H H' → H c = none → H' t = some (.tup [.ref c, .int k]) → H' c = some (.lst (cs.map V.int)) → AllC m k gs cs → cs.sum = 0 → k ∈ gs → Q (.ref t) H'
section
variable {P : Program} {w : World} {K : PySem.W.Frag} {mg : Str → Option Value} {base : Heap}
abbrev NLeast : List Str := ["size", "gaps", "place", "gap", "ordered", "kept", "changes"]
theorem scLeast : FnScope NLeast ["size", "gaps"] (defScope sLeast) := ⟨rfl, rfl, rfl, by decide +kernel, rfl, by decide +kernel, by decide +kernel⟩
theorem ok_least (D : Def K mg "least_changes" sLeast ["size", "gaps"]) (B : Blt mg) (B3 : Blt3 mg) : Callee P w K mg base 1 "least_changes" ["size", "gaps"] (spLeast K) := by
  refine D.ok scLeast (fun vs H Q E h => ?_) (fun f cdv A outer s H vs Q E hr h => ?_)
  · obtain ⟨m, p, gs, q, rfl, _⟩ := h
    rfl
  · obtain ⟨m, p, gs, qn, rfl, hS, hm, hmx, hsum, hdiv, hqn, hgl, q⟩ := h
    refine ⟨_, pss_cons (ps_set (i := 4) scLeast.nd rfl (.inl rfl) (pe_callB cr_sortedPO (by rfl) B3.sorted (by decide +kernel) (pa_cons
        (pe_lc (own := [("place", 2), ("gap", 3)]) (g := gTup K 2 (gCons (gName 2) (gCons (gName 3) gNil))) (tt := tYes) rfl scLeast.nd (pi_enum (by rfl) B.enumerate (pa_cons (pv 1) pa_nil)) (blkOk_by (N := NLeast) (sc := defScope sLeast) (by decide +kernel))
          (fun _ _ _ _ _ => pg_tup (by rfl) (pgs_cons (pg_name (i := 2) scLeast.nd rfl (.inl rfl)) (pgs_cons (pg_name (i := 3) scLeast.nd rfl (.inl rfl)) pgs_nil))) (fun _ _ _ _ _ => pts_nil)
          (fun _ _ _ _ _ => pe_tup (pa_cons (pv 3) (pa_cons (pv 2) pa_nil)))) pa_nil)))
      (pss_cons (ps_set (i := 5) scLeast.nd rfl (.inl rfl) (pe_op op_sub (pe_callB call_len_seq (by rfl) B.len PySem.boot_len (pa_cons (pv 1) pa_nil)) (pe_op op_fdivW (pe_callB (cr_sum rfl) (by rfl) B.sum PyProof.Rows.boot_sum (pa_cons (pv 1) pa_nil)) (pv 0))))
      (pss_cons (ps_set (i := 6) scLeast.nd rfl (.inl rfl) (pe_callTy call_list_of (by rfl) B.list PyProof.Rows.boot_list (pa_cons (pv 1) pa_nil)))
      (pss_cons (ps_for PassesOwn.never rfl (pi_list (pe_slice sl_list (pv 4) (po_some (pv 5)) po_none)) (pg_tup (by rfl) (pgs_cons (pg_name (i := 3) scLeast.nd rfl (.inl rfl)) (pgs_cons (pg_name (i := 2) scLeast.nd rfl (.inl rfl)) pgs_nil)))
        (pss_one (ps_asg (pe_op op_sub (pv 3) (pv 0)) (pg_sub (pv 6) (pv 2) set_list))))
      (pss_one (ps_ret (pe_tup (pa_cons (pv 6) (pa_cons (pe_ix ix_tup (pe_ix ix_list (pv 4) (pe_op op_sub (pv 5) pe_int) (fun _ _ => rfl)) pe_int (fun _ _ => rfl)) pa_nil)))))))), ?_⟩
    -- the pairs
    refine ⟨_, rfl, p, _, rfl, hS, fun L hL => lc_it (walk_enum (K := K) (a := p) (xs := gs.map V.int)) (fun i H2 => Same H H2 ∧ ∃ as, H2 L = some (.lst (as.map V.ref)) ∧ PsAt H2 as ((pairs gs).take i)) ⟨same_new hL, [], upd_same, PsAt.nil⟩ (fun i H2 _ h => h.1.seq hS) ?_ ?_⟩
    · rintro i x H2 H3 hi ⟨sm, as, hL2, hp2⟩ ⟨U, u, v, rfl, nU, rfl, hu, hv⟩
      obtain ⟨g, hg, rfl⟩ := map_at hv
      cases hu
      have sU : Same H2 (upd H2 U (.tup [.int ((i : Nat) : Int), .int g])) := same_new nU
      refine ⟨U, _, rfl, .inl (.inl upd_same), rfl, _, _, rfl, _, _, rfl, rfl, rfl, ?_⟩
      refine ⟨_, rfl, _, rfl, (by show 2 ≤ sizeLine; decide), fun t ht => ?_⟩
      have sT := same_new (o := .tup [.int g, .int ((i : Nat) : Int)]) ht
      have hL4 := sT _ _ (sU _ _ hL2)
      refine ⟨_, hL4, ?_, smut ((sm.trans sU).trans sT) hL, as ++ [t], ?_, ?_⟩
      · rw [List.length_map, hp2.len, List.length_take]
        have := at_lt hg
        exact line_lt (by omega)
      · rw [upd_same, List.map_append]; rfl
      · have e : (pairs gs)[i]? = some (g, (i : Int)) := by
          unfold pairs
          rw [List.getElem?_mapIdx, hg]
          rfl
        rw [take_snoc e]
        exact PsAt.snoc (((hp2.same sU).same sT).upd hL4) (by rw [upd_ne (ne_of upd_same hL4 (by intro z; cases z)), upd_same])
    · rintro H3 ⟨s3, as, hL3, hp3⟩
      have hpl : (pairs gs).length = gs.length := by unfold pairs; rw [List.length_mapIdx]
      rw [List.take_of_length_le (by rw [List.length_map, hpl]; exact Nat.le_refl _)] at hp3
      refine ⟨L, _, pairOf H3, rfl, SqL.of hL3, fun x hx => ?_, fun ys O hsd hst hO => ?_⟩
      · obtain ⟨t, ht, rfl⟩ := List.mem_map.mp hx
        obtain ⟨j, hj⟩ := List.mem_iff_getElem?.mp ht
        obtain ⟨pr, h1, h2⟩ := hp3.at_ j t hj
        exact ⟨t, rfl, by rw [pairOf_at h2]; exact h2⟩
      have hord : Ord gs (ys.map (pairOf H3)) := by
        refine ⟨by rw [← pairs_of hp3]; exact hst.perm.map _, ?_⟩
        rw [List.pairwise_map]
        refine List.Pairwise.imp (fun {x y} h => ?_) hsd
        have := SrtO.lexB_no.mp h
        omega
      have hys : ∀ y ∈ ys, ∃ t, y = V.ref t ∧ H3 t = some (.tup [.int (pairOf H3 y).1, .int (pairOf H3 y).2]) := fun y hy => by
        obtain ⟨t, ht, rfl⟩ := List.mem_map.mp (hst.perm.mem_iff.mp hy)
        obtain ⟨j, hj⟩ := List.mem_iff_getElem?.mp ht
        obtain ⟨pr, h1, h2⟩ := hp3.at_ j t hj
        exact ⟨t, rfl, by rw [pairOf_at h2]; exact h2⟩
      generalize ek : pairOf H3 = kf at hord hys
      have hyl : ys.length = gs.length := by have := hord.len; rw [List.length_map] at this; exact this
      have s4 : Same H3 (upd H3 O (.lst ys)) := same_new hO
      have hO4 : (upd H3 O (.lst ys)) O = some (.lst ys) := upd_same
      have t4 := s3.trans s4
      have hys4 : ∀ y ∈ ys, ∃ t, y = V.ref t ∧ (upd H3 O (.lst ys)) t = some (.tup [.int (kf y).1, .int (kf y).2]) := fun y hy => by
        obtain ⟨t, e, h⟩ := hys y hy
        exact ⟨t, e, s4 _ _ h⟩
      generalize upd H3 O (.lst ys) = H4 at t4 hO4 hys4
      -- how many are kept
      refine ⟨_, rfl, p, _, rfl, .inl (t4.seq hS), _, rfl, p, gs, rfl, t4.seq hS, _, rfl, _, m, rfl, rfl, wide_div (b := 200) hm (by omega) (by decide) (by decide), _, _, rfl, rfl, ?_⟩
      obtain ⟨kept, hkept⟩ : ∃ kept : Nat, kept + qn = gs.length := ⟨gs.length - qn, by omega⟩
      have ekept : (((gs.map V.int).length : Int) - gs.sum / m) = (kept : Int) := by rw [List.length_map, hdiv]; omega
      show gName 5 (V.int (((gs.map V.int).length : Int) - gs.sum / m)) _ _ _
      rw [ekept]
      -- changes
      refine ⟨_, rfl, p, _, rfl, .inl (t4.seq hS), fun c hc => ?_⟩
      have s5 : Same H4 (upd H4 c (.lst (gs.map V.int))) := same_new hc
      have hcH : H c = none := t4.free hc
      have hcO : O ≠ c := ne_of_none hO4 hc
      refine ⟨_, rfl, _, rfl, (kept : Int), rfl, O, _, rfl, SqL.of (s5 _ _ hO4), fun Z hZ => ?_⟩
      have s6 := same_new (o := .lst (cutV ys (some (kept : Int)) none)) hZ
      rw [cut_from] at s6 ⊢
      have hc6 : (upd (upd H4 c (.lst (gs.map V.int))) Z (.lst (ys.drop kept))) c = some (.lst (gs.map V.int)) := s6 _ _ upd_same
      have hZ6 : (upd (upd H4 c (.lst (gs.map V.int))) Z (.lst (ys.drop kept))) Z = some (.lst (ys.drop kept)) := upd_same
      have hcZ : Z ≠ c := ne_of_none (upd_same (H := H4) (a := c)) hZ |>.symm
      have t6 := (t4.trans s5).trans s6
      have hO6 := s6 _ _ (s5 _ _ hO4)
      have hys6 : ∀ y ∈ ys, ∃ t, y = V.ref t ∧ t ≠ c ∧ (upd (upd H4 c (.lst (gs.map V.int))) Z (.lst (ys.drop kept))) t = some (.tup [.int (kf y).1, .int (kf y).2]) := fun y hy => by
        obtain ⟨t, e, h⟩ := hys4 y hy
        exact ⟨t, e, ne_of_none h hc, s6 _ _ (s5 _ _ h)⟩
      generalize upd (upd H4 c (.lst (gs.map V.int))) Z (.lst (ys.drop kept)) = H6 at hc6 hZ6 t6 hO6 hys6
      have hdl : (ys.drop kept).length = (tops (ys.map kf) kept).length := by unfold tops; rw [List.length_map, List.length_drop, List.length_drop, List.length_map]
      refine ⟨Z, rfl, ⟨_, SqL.of hZ6⟩, for_list (K := K) (a := Z) (xs := ys.drop kept)
        (fun i σ H7 => (∃ x2 x3, σ = [some (.int m), some (.ref p), x2, x3, some (.ref O), some (.int kept), some (.ref c)]) ∧ Same H H7 ∧ (∀ b o, b ≠ c → H6 b = some o → H7 b = some o) ∧ H7 c = some (.lst ((dropAt m gs ((tops (ys.map kf) kept).take i)).map V.int)))
        ⟨⟨none, none, rfl⟩, t6, fun _ _ _ e => e, by rw [List.take_zero, dropAt_nil]; exact hc6⟩ (fun i σ H7 _ h => SqL.of (h.2.2.1 _ _ hcZ hZ6)) ?_ ?_⟩
      · rintro i y σ H7 hi ⟨⟨x2, x3, rfl⟩, s7, k7, hc7⟩
        have hmem := List.mem_of_mem_drop (List.mem_of_getElem? hi)
        obtain ⟨t, rfl, htc, ht⟩ := hys6 y hmem
        obtain ⟨pl, hg, hpl2⟩ := pairs_mem.mp (hord.perm.mem_iff.mp (List.mem_map.mpr ⟨_, hmem, rfl⟩))
        have hpl' := (List.getElem?_eq_some_iff.mp hg).1
        refine ⟨t, _, rfl, .inl (.inl (k7 _ _ htc ht)), rfl, _, _, rfl, _, _, rfl, rfl, ?_⟩
        refine ⟨_, rfl, _, rfl, _, m, rfl, rfl, ?_⟩
        refine ⟨_, rfl, _, rfl, c, _, _, pl, rfl, (by rw [hpl2]), hc7, ?_, ?_⟩
        · exact ixN_nat (by rw [List.length_map, dropAt_length]; exact hpl')
        refine ⟨⟨_, _, rfl⟩, ?_, fun b o hb e => by rw [upd_ne hb]; exact k7 b o hb e, ?_⟩
        · exact smut s7 hcH
        · have htop : (tops (ys.map kf) kept)[i]? = some pl := by
            unfold tops
            rw [List.getElem?_map, ← List.map_drop, List.getElem?_map, hi]
            show some ((kf (V.ref t)).2.toNat) = _
            rw [hpl2]
            rfl
          rw [upd_same, take_snoc htop, ← dropAt_step hg, List.map_set]
      · rintro σ H7 ⟨⟨x2, x3, rfl⟩, s7, k7, hc7⟩
        rw [hdl, List.take_length] at hc7
        have hk0 : 0 < kept := by omega
        have hkl : kept - 1 < ys.length := by omega
        have hy := List.getElem?_eq_getElem hkl
        obtain ⟨t, et, htc, ht⟩ := hys6 _ (List.getElem_mem hkl)
        have hpk : (ys.map kf)[kept - 1]? = some (kf ys[kept - 1]) := by rw [List.getElem?_map, hy]; rfl
        have hcO' : O ≠ c := hcO
        refine ⟨_, rfl, _, rfl, _, rfl, (kept : Int), 1, rfl, rfl, O, _, _, ys[kept - 1], rfl, rfl, SqL.of (k7 _ _ hcO' hO6), at_of (j := kept - 1) (by omega) hy, t, _, 0, _, et, rfl, .inl (.inl (k7 _ _ htc ht)), atI_nat (j := 0) rfl, (by show 2 ≤ sizeLine; decide), fun r hr0 => ?_⟩
        have s8 := same_new (o := .tup [.ref c, .int (kf ys[kept - 1]).1]) hr0
        refine q _ r c (dropAt m gs (tops (ys.map kf) kept)) (kf ys[kept - 1]).1 (s7.trans s8) hcH upd_same (s8 _ _ hc7) (hord.all hk0 hpk) (hord.sum hkept hsum) ?_
        obtain ⟨j, hj, _⟩ := pairs_mem.mp (hord.perm.mem_iff.mp (List.mem_of_getElem? hpk))
        exact List.mem_of_getElem? hj
end
end DR
namespace DR
open PySem PySem.Spec PyProof.Rows L2
/-- the lists of deeds_over in the heap -/
structure OvH (H H2 : Hp) (d w : Addr) (das was : List Addr) (ds : List Deed) (ws : Owed) : Prop where
  same : Same H H2
  hd : H2 d = some (.lst (das.map V.ref))
  hw : H2 w = some (.lst (was.map V.ref))
  D : DsAt H2 das ds
  W : PsAt H2 was ws
section
variable {H H2 : Hp} {d w t : Addr} {das was : List Addr} {ds : List Deed} {ws : Owed}
theorem OvH.new (h : OvH H H2 d w das was ds ws) (ht : H2 t = none) {o : HO} : OvH H (upd H2 t o) d w das was ds ws :=
  have s : Same H2 (upd H2 t o) := same_new ht
  ⟨h.same.trans s, s _ _ h.hd, s _ _ h.hw, h.D.same s, h.W.same s⟩
theorem OvH.deed (h : OvH H H2 d w das was ds ws) (hdH : H d = none) (hdw : d ≠ w) {x : Deed} (ht : H2 t = some (.tup (tri x))) : OvH H (upd H2 d (.lst ((das ++ [t]).map V.ref))) d w (das ++ [t]) was (ds ++ [x]) ws :=
  ⟨smut h.same hdH, upd_same, by rw [upd_ne (Ne.symm hdw)]; exact h.hw, (h.D.upd h.hd).snoc (by rw [upd_ne (ne_of ht h.hd (by intro z; cases z))]; exact ht), h.W.upd h.hd⟩
theorem OvH.wait (h : OvH H H2 d w das was ds ws) (hwH : H w = none) (hdw : d ≠ w) {p : Int × Int} (ht : H2 t = some (.tup [.int p.1, .int p.2])) : OvH H (upd H2 w (.lst ((was ++ [t]).map V.ref))) d w das (was ++ [t]) ds (ws ++ [p]) :=
  ⟨smut h.same hwH, by rw [upd_ne hdw]; exact h.hd, upd_same, h.D.upd h.hw, (h.W.upd h.hw).snoc (by rw [upd_ne (ne_of ht h.hw (by intro z; cases z))]; exact ht)⟩
theorem OvH.pop {a : Addr} {p : Int × Int} (h : OvH H H2 d w das (was ++ [a]) ds (ws ++ [p])) (hwH : H w = none) (hdw : d ≠ w) : OvH H (upd H2 w (.lst (was.map V.ref))) d w das was ds ws ∧ H2 a = some (.tup [.int p.1, .int p.2]) ∧ a ≠ w := by
  obtain ⟨hW, ha⟩ := h.W.dropLast
  exact ⟨⟨smut h.same hwH, by rw [upd_ne hdw]; exact h.hd, upd_same, h.D.upd h.hw, hW.upd h.hw⟩, ha, ne_of ha h.hw (by intro z; cases z)⟩
end
def spOver (K : PySem.W.Frag) : Sp := fun vs H Q _ => ∃ (p : Addr) (cs : List Int), vs = [.ref p] ∧ SqL K H p (cs.map V.int) ∧ cs.sum = 0 ∧ cs.length ≤ 1001 ∧ (∀ c ∈ cs, ab c ≤ 2 ^ 200) ∧
  ∀ H' q as ds, Same H H' → H q = none → H' q = some (.lst (as.map V.ref)) → DsAt H' as ds → Over cs ds → Q (.ref q) H'
theorem bits_200 {x : Int} (h : ab x ≤ 2 ^ 200) : Builtin.Int.intBits x ≤ 201 := by
  rw [intBits_le_iff]
  have e : ((2 ^ 201 : Nat) : Int) = (2 : Int) ^ 201 := Int.natCast_pow 2 201
  have p : (2 : Int) ^ 200 < 2 ^ 201 := by decide +kernel
  unfold ab at h
  split at h <;> omega
section
variable {P : Program} {w : World} {K : PySem.W.Frag} {mg : Str → Option Value} {base : Heap}
abbrev NOver : List Str := ["changes", "deeds", "waiting", "place", "change", "left", "first", "owed", "steps"]
theorem scOver : FnScope NOver ["changes"] (defScope sOver) := ⟨rfl, rfl, rfl, by decide +kernel, rfl, by decide +kernel, by decide +kernel⟩
theorem ok_over (D : Def K mg "deeds_over" sOver ["changes"]) (B : Blt mg) (B2 : Blt2 mg) : Callee P w K mg base 1 "deeds_over" ["changes"] (spOver K) := by
  refine D.ok scOver (fun vs H Q E h => ?_) (fun f cdv A outer s H vs Q E hr h => ?_)
  · obtain ⟨p, cs, rfl, _⟩ := h
    rfl
  · obtain ⟨p, cs, rfl, hS, hz, hcl, hcB, q⟩ := h
    refine ⟨_, pss_cons (ps_set (i := 1) scOver.nd rfl (.inl rfl) (pe_lst pa_nil))
      (pss_cons (ps_set (i := 2) scOver.nd rfl (.inl rfl) (pe_lst pa_nil))
      (pss_cons (ps_for PassesOwn.never rfl (pi_enum (by rfl) B.enumerate (pa_cons (pv 0) pa_nil)) (pg_tup (by rfl) (pgs_cons (pg_name (i := 3) scOver.nd rfl (.inl rfl)) (pgs_cons (pg_name (i := 4) scOver.nd rfl (.inl rfl)) pgs_nil)))
        (pss_cons (ps_set (i := 5) scOver.nd rfl (.inl rfl) (pv 4))
        (pss_cons (ps_while PassesOwn.never (PW.pt (pw_and (pt_truth (pv 2) (by intro _; rfl)) (pw_and1 (pt_cmpR op_lt (pe_op op_mulB (pe_ix ix_tup (pe_ix ix_list (pv 2) (pe_un un_neg pe_int) (fun _ _ => rfl)) pe_int (fun _ _ => rfl)) (pv 5)) pe_int (nomark _)))))
          (pss_cons (ps_asg (pe_bm0 PySem.F.plainAttrs_list PySem.F.slot_list_pop PySem.F.type_list_pop mt_pop (pv 2)) (pg_tup (by rfl) (pgs_cons (pg_name (i := 6) scOver.nd rfl (.inl rfl)) (pgs_cons (pg_name (i := 7) scOver.nd rfl (.inl rfl)) pgs_nil))))
          (pss_cons (ps_set (i := 8) scOver.nd rfl (.inl rfl) (pe_ifExp (pt_cmpR op_le (pe_callB call_abs (by rfl) B2.abs PyProof.Rows.boot_abs (pa_cons (pv 7) pa_nil)) (pe_callB call_abs (by rfl) B2.abs PyProof.Rows.boot_abs (pa_cons (pv 5) pa_nil)) (nomark _)) (pv 7) (pe_un un_neg (pv 5))))
          (pss_cons (ps_expr (pe_bm PySem.F.plainAttrs_list PySem.F.slot_list_append PySem.F.type_list_append mt_append (pv 1) (pa_cons (pe_tup (pa_cons (pv 6) (pa_cons (pv 3) (pa_cons (pv 8) pa_nil)))) pa_nil)))
          (pss_cons (ps_aug (i := 5) scOver.nd rfl (.inl rfl) (pv 8) ip_add)
          (pss_one (ps_if (pt_cmpR op_ne (pv 7) (pv 8) (nomark _)) (pss_one (ps_expr (pe_bm PySem.F.plainAttrs_list PySem.F.slot_list_append PySem.F.type_list_append mt_append (pv 2) (pa_cons (pe_tup (pa_cons (pv 6) (pa_cons (pe_op op_sub (pv 7) (pv 8)) pa_nil))) pa_nil)))) pss_nil)))))))
        (pss_one (ps_if (pt_cmpR op_ne (pv 5) pe_int (nomark _)) (pss_one (ps_expr (pe_bm PySem.F.plainAttrs_list PySem.F.slot_list_append PySem.F.type_list_append mt_append (pv 2) (pa_cons (pe_tup (pa_cons (pv 3) (pa_cons (pv 5) pa_nil))) pa_nil)))) pss_nil)))))
      (pss_one (ps_ret (pv 1))))), ?_⟩
    refine ⟨Nat.zero_le _, fun d hd => ⟨Nat.zero_le _, fun w hw => ?_⟩⟩
    have sd : Same H (upd H d (.lst [])) := same_new hd
    have sw : Same (upd H d (.lst [])) (upd (upd H d (.lst [])) w (.lst [])) := same_new hw
    have hdw : d ≠ w := ne_of_none (upd_same (H := H) (a := d)) hw
    have hwH : H w = none := sd.free hw
    refine ⟨_, rfl, p, _, rfl, (sd.trans sw).seq hS, for_it (walk_enum (K := K) (a := p) (xs := cs.map V.int))
      (fun i σ H2 => (∃ x3 x4 x5 x6 x7 x8, σ = [some (.ref p), some (.ref d), some (.ref w), x3, x4, x5, x6, x7, x8]) ∧ ∃ das was ds ws, OvH H H2 d w das was ds ws ∧ Ov0 (2 ^ 200) cs i ds ws)
      ⟨⟨none, none, none, none, none, none, rfl⟩, [], [], [], [], ⟨sd.trans sw, sw _ _ upd_same, upd_same, DsAt.nil, PsAt.nil⟩, Ov0.nil⟩ (fun i σ H2 _ h => ?_) ?_ ?_⟩
    · obtain ⟨_, _, _, _, _, o, _⟩ := h
      exact o.same.seq hS
    · rintro i y σ H2 H3 hi ⟨⟨x3, x4, x5, x6, x7, x8, rfl⟩, das, was, ds, ws, o, v0⟩ ⟨U, u, v, rfl, nU, rfl, hu, hv⟩
      obtain ⟨c, hc, rfl⟩ := map_at hv
      cases hu
      have oU := o.new nU (o := .tup [.int ((i : Nat) : Int), .int c])
      refine ⟨U, _, rfl, .inl (.inl upd_same), rfl, _, _, rfl, _, _, rfl, rfl, ?_⟩
      generalize upd H2 U (.tup [.int ((i : Nat) : Int), .int c]) = H3 at oU
      clear o
      refine ⟨_, rfl, ?_⟩
      have hil : i < cs.length := at_lt hc
      have v1 : Ov (2 ^ 200) 0 cs i c ds ws := v0.start hc (hcB c (List.mem_of_getElem? hc))
      clear v0
      refine ⟨fun m σ H4 => ∃ x6 x7 x8 left das was ds ws, σ = [some (.ref p), some (.ref d), some (.ref w), some (.int ((i : Nat) : Int)), some (.int c), some (.int left), x6, x7, x8] ∧ OvH H H4 d w das was ds ws ∧ Ov (2 ^ 200) 0 cs i left ds ws ∧ ws.length + (if left = 0 then 0 else 1) = m,
        ⟨_, x6, x7, x8, c, das, was, ds, ws, rfl, oU, v1, rfl⟩, ?_⟩
      clear v1 oU das was ds ws x3 x4 x5 x6 x7 x8
      rintro m σ H4 ⟨x6, x7, x8, left, das, was, ds, ws, rfl, o, v, hm⟩
      have wl := o.W.len
      by_cases hgo : ∃ ws' f g, ws = ws' ++ [(f, g)] ∧ g * left < 0
      · -- one more is turned
        obtain ⟨ws, fi, g, rfl, hneg⟩ := hgo
        obtain ⟨was, a, rfl⟩ : ∃ b a, was = b ++ [a] := by
          rcases List.eq_nil_or_concat was with e | ⟨b, a, e⟩
          · subst e
            rw [List.length_append] at wl
            simp at wl
          · exact ⟨b, a, by rw [e, List.concat_eq_append]⟩
        obtain ⟨o2, ha, haw⟩ := o.pop hwH hdw
        have hw4 : H4 w = some (.lst (was.map V.ref ++ [V.ref a])) := by rw [o.hw, List.map_append]; rfl
        have hpl := v.place
        have hf := v.few
        have hdl := o.D.len
        rw [List.length_append] at hf
        have wl2 := o2.W.len
        have hlast : (was.map V.ref ++ [V.ref a])[(was.map V.ref ++ [V.ref a]).length - 1]? = some (V.ref a) := by
          rw [List.length_append, List.getElem?_append_right (by simp), show (was.map V.ref).length + [V.ref a].length - 1 - (was.map V.ref).length = 0 by simp]
          rfl
        have ha2 : (upd H4 w (.lst (was.map V.ref))) a = some (.tup [.int fi, .int g]) := by rw [upd_ne haw]; exact ha
        refine ⟨_, rfl, true, .inl ⟨_, SqL.of hw4, by simp⟩, ?_⟩
        refine iteT ⟨_, rfl, 1, rfl, w, _, _, _, rfl, rfl, SqL.of hw4, atI_last _ _, a, _, 1, _, rfl, rfl, .inl (.inl ha), atI_nat (j := 1) rfl, _, rfl, g, left, rfl, rfl, IntMulOk.of_le (m := 201) (bits_200 hpl.2.2) (bits_200 v.sl) (by decide), _, 0, rfl, rfl, _, rfl, ?_⟩
        rw [decide_eq_true hneg]
        refine iteT ⟨_, fun _ _ h => h, ?_⟩
        refine ⟨_, rfl, .inl ⟨rfl, _, SqL.of hw4⟩, w, _, V.ref a, rfl, rfl, hw4, hlast, ?_⟩
        rw [List.dropLast_concat]
        refine ⟨a, _, rfl, .inl (.inl ha2), rfl, _, _, rfl, _, _, rfl, rfl, ?_⟩
        generalize upd H4 w (.lst (was.map V.ref)) = H5 at o2
        refine ⟨_, rfl, g, rfl, _, rfl, left, rfl, _, _, rfl, rfl, _, rfl, ?_⟩
        by_cases hle : ab g ≤ ab left
        · rw [decide_eq_true (show (if g < 0 then -g else g) ≤ (if left < 0 then -left else left) from hle)]
          refine iteT ⟨_, rfl, ?_⟩
          refine ⟨_, rfl, .inl ⟨rfl, _, SqL.of o2.hd⟩, _, rfl, _, rfl, _, rfl, (by show 3 ≤ sizeLine; decide), fun t ht => ⟨d, _, _, rfl, rfl, (o2.new ht).hd, ?_, ?_⟩⟩
          · rw [List.length_map]
            exact line_lt (by omega)
          have o3 := (o2.new (o := .tup [.int fi, .int ((i : Nat) : Int), .int g]) ht).deed hd hdw (x := (fi, ((i : Nat) : Int), g)) upd_same
          rw [List.map_append] at o3
          refine ⟨_, rfl, _, rfl, _, _, rfl, rfl, _, rfl, _, rfl, rfl, _, rfl, ?_⟩
          rw [decide_eq_true rfl]
          refine iteF ⟨_, ?_, _, _, _, left + g, das ++ [t], was, ds ++ [(fi, ((i : Nat) : Int), g)], ws, rfl, o3, v.whole hneg hle, rfl⟩
          have hl : left ≠ 0 := fun e => by subst e; simp at hneg
          rw [← hm, if_neg hl, List.length_append]
          show _ < _ + 1 + 1
          split <;> omega
        · rw [decide_eq_false (show ¬ (if g < 0 then -g else g) ≤ (if left < 0 then -left else left) from hle)]
          refine iteF ⟨_, rfl, left, rfl, ?_⟩
          refine ⟨_, rfl, .inl ⟨rfl, _, SqL.of o2.hd⟩, _, rfl, _, rfl, _, rfl, (by show 3 ≤ sizeLine; decide), fun t ht => ⟨d, _, _, rfl, rfl, (o2.new ht).hd, ?_, ?_⟩⟩
          · rw [List.length_map]
            exact line_lt (by omega)
          have o3 := (o2.new (o := .tup [.int fi, .int ((i : Nat) : Int), .int (-left)]) ht).deed hd hdw (x := (fi, ((i : Nat) : Int), -left)) upd_same
          rw [List.map_append] at o3
          refine ⟨_, rfl, _, rfl, _, _, rfl, rfl, _, rfl, _, rfl, rfl, _, rfl, ?_⟩
          have hgl : g ≠ -left := fun e => by subst e; exact hle (by unfold ab; split <;> split <;> omega)
          rw [decide_eq_false (fun e => hgl (V.int.inj e))]
          refine iteT ⟨_, rfl, .inl ⟨rfl, _, SqL.of o3.hw⟩, _, rfl, _, rfl, _, rfl, _, _, rfl, rfl, (by show 2 ≤ sizeLine; decide), fun t2 ht2 => ⟨w, _, _, rfl, rfl, (o3.new ht2).hw, ?_, ?_⟩⟩
          · rw [List.length_map]
            exact line_lt (by omega)
          have o4 := (o3.new (o := .tup [.int fi, .int (g - -left)]) ht2).wait hwH hdw (p := (fi, g - -left)) upd_same
          rw [List.map_append] at o4
          refine ⟨_, ?_, _, _, _, left + -left, das ++ [t], was ++ [t2], ds ++ [(fi, ((i : Nat) : Int), -left)], ws ++ [(fi, g - -left)], rfl, o4, v.part hneg hle, rfl⟩
          have hl : left ≠ 0 := fun e => by subst e; simp at hneg
          rw [← hm, if_neg hl, if_pos (by omega), List.length_append, List.length_append]
          show _ + 1 + 0 < _ + 1 + 1
          omega
      · -- nothing more is turned here
        have hno : ∀ p, ws.getLast? = some p → ¬ p.2 * left < 0 := fun p e hn => by
          rcases List.eq_nil_or_concat ws with e2 | ⟨b, p2, e2⟩
          · subst e2; cases e
          · rw [List.concat_eq_append] at e2
            subst e2
            rw [List.getLast?_concat] at e
            cases e
            exact hgo ⟨b, p.1, p.2, rfl, hn⟩
        have hf := v.few
        rcases List.eq_nil_or_concat ws with e2 | ⟨ws', p2, e2⟩
        case inl =>
          have hwn : was = [] := List.eq_nil_of_length_eq_zero (by rw [wl, e2]; rfl)
          have hw4 := o.hw
          rw [hwn] at hw4
          refine ⟨_, rfl, false, .inl ⟨_, SqL.of hw4, rfl⟩, iteF (iteF ?_)⟩
          refine ⟨_, rfl, rfl, _, rfl, ?_⟩
          by_cases h0 : left = 0
          · subst h0
            rw [decide_eq_true rfl]
            exact iteF ⟨⟨_, _, _, _, _, _, rfl⟩, das, was, ds, ws, o, v.none⟩
          · rw [decide_eq_false (fun e => h0 (V.int.inj e))]
            refine iteT ⟨_, rfl, .inl ⟨rfl, _, SqL.of o.hw⟩, _, rfl, _, rfl, (by show 2 ≤ sizeLine; decide), fun t ht => ⟨w, _, _, rfl, rfl, (o.new ht).hw, ?_, ?_⟩⟩
            · rw [List.length_map]
              exact line_lt (by rw [wl]; omega)
            have o3 := (o.new (o := .tup [.int ((i : Nat) : Int), .int left]) ht).wait hwH hdw (p := (((i : Nat) : Int), left)) upd_same
            rw [List.map_append] at o3
            exact ⟨⟨_, _, _, _, _, _, rfl⟩, das, was ++ [t], ds, ws ++ [(((i : Nat) : Int), left)], o3, v.wait h0 hno⟩
        case inr =>
          rw [List.concat_eq_append] at e2
          obtain ⟨was', a, ewas⟩ : ∃ b a, was = b ++ [a] := by
            rcases List.eq_nil_or_concat was with e | ⟨b, a, e⟩
            · rw [e2, e, List.length_append] at wl
              simp at wl
            · exact ⟨b, a, by rw [e, List.concat_eq_append]⟩
          have hW := o.W
          rw [e2, ewas] at hW
          have hw4 : H4 w = some (.lst (was'.map V.ref ++ [V.ref a])) := by rw [o.hw, ewas, List.map_append]; rfl
          have ha := hW.dropLast.2
          have hpl := v.sm p2 (by rw [e2]; exact List.mem_append_right _ (List.mem_singleton.mpr rfl))
          have hng : ¬ p2.2 * left < 0 := fun hn => hgo ⟨ws', p2.1, p2.2, e2, hn⟩
          refine ⟨_, rfl, true, .inl ⟨_, SqL.of hw4, by simp⟩, ?_⟩
          refine iteT ⟨_, rfl, 1, rfl, w, _, _, _, rfl, rfl, SqL.of hw4, atI_last _ _, a, _, 1, _, rfl, rfl, .inl (.inl ha), atI_nat (j := 1) rfl, _, rfl, p2.2, left, rfl, rfl, IntMulOk.of_le (m := 201) (bits_200 hpl) (bits_200 v.sl) (by decide), _, 0, rfl, rfl, _, rfl, ?_⟩
          rw [decide_eq_false hng]
          refine iteF ?_
          refine ⟨_, rfl, rfl, _, rfl, ?_⟩
          by_cases h0 : left = 0
          · subst h0
            rw [decide_eq_true rfl]
            exact iteF ⟨⟨_, _, _, _, _, _, rfl⟩, das, was, ds, ws, o, v.none⟩
          · rw [decide_eq_false (fun e => h0 (V.int.inj e))]
            refine iteT ⟨_, rfl, .inl ⟨rfl, _, SqL.of o.hw⟩, _, rfl, _, rfl, (by show 2 ≤ sizeLine; decide), fun t ht => ⟨w, _, _, rfl, rfl, (o.new ht).hw, ?_, ?_⟩⟩
            · rw [List.length_map]
              exact line_lt (by rw [wl]; omega)
            have o3 := (o.new (o := .tup [.int ((i : Nat) : Int), .int left]) ht).wait hwH hdw (p := (((i : Nat) : Int), left)) upd_same
            rw [List.map_append] at o3
            exact ⟨⟨_, _, _, _, _, _, rfl⟩, das, was ++ [t], ds, ws ++ [(((i : Nat) : Int), left)], o3, v.wait h0 hno⟩
    · rintro σ H2 ⟨⟨x3, x4, x5, x6, x7, x8, rfl⟩, das, was, ds, ws, o, v⟩
      rw [List.length_map] at v
      exact ⟨_, rfl, q H2 d das ds o.same hd o.hd o.D (v.over hz)⟩
end
end DR
namespace DR
open PySem PySem.Spec PyProof.Rows L2
/-! ### the changes make the one row into the other one -/
theorem take_map_mod {m : Int} {cs gs : List Int} (h : cs.map (· % m) = gs.map (· % m)) (j : Nat) : (cs.take j).sum % m = (gs.take j).sum % m := by
  rw [← sum_mod (cs.take j), ← sum_mod (gs.take j), List.map_take, List.map_take, h]
theorem diffs_take : ∀ (l : List Int) (x : Int) (i : Nat) (z : Int), (x :: l)[i]? = some z → ((diffs (x :: l)).take i).sum = z - x
  | l, x, 0, z, h => by
    have e : x = z := by simpa using h
    rw [List.take_zero, ← e]
    show (0 : Int) = x - x
    omega
  | [], x, i + 1, z, h => by simp at h
  | y :: r, x, i + 1, z, h => by
    have ih := diffs_take r y i z (by simpa using h)
    show ((y - x) :: (diffs (y :: r)).take i).sum = z - x
    rw [List.sum_cons, ih]
    omega
theorem over_behind {m k : Int} {xs ys cs : List Int} {ds : List Deed} (hm : 0 < m) (hl : xs.length = ys.length) (hy : RowOk m ys) (hc : AllC m k ((raw xs ys).map (· % m)) cs) (h : Over cs ds) : behind m xs ds = ys := by
  have hmod : cs.map (· % m) = (raw xs ys).map (· % m) := by
    rw [allC_mod hc, List.map_map]
    refine List.map_congr_left fun x _ => ?_
    show x % m % m = x % m
    exact Int.emod_emod_of_dvd x (Int.dvd_refl m)
  refine List.ext_getElem? fun i => ?_
  rw [behind_get]
  by_cases hi : i < xs.length
  · have ex := List.getElem?_eq_getElem hi
    have ey := List.getElem?_eq_getElem (show i < ys.length by omega)
    have ez : ((0 : Int) :: (List.zipWith (fun x y => y - x) xs ys ++ [0]))[i + 1]? = some (ys[i] - xs[i]) := by
      rw [List.getElem?_cons_succ, List.getElem?_append_left (by rw [List.length_zipWith]; omega), List.getElem?_zipWith, ex, ey]
    have es := diffs_take (List.zipWith (fun x y => y - x) xs ys ++ [0]) 0 (i + 1) _ ez
    have ec := take_map_mod hmod (i + 1)
    rw [ex, ey]
    show some ((xs[i] + cover ds (i : Int)) % m) = some ys[i]
    rw [h.cov i, Int.add_emod, ec]
    have e2 : ((raw xs ys).take (i + 1)).sum = ys[i] - xs[i] := by
      have : ((raw xs ys).take (i + 1)).sum = ys[i] - xs[i] - 0 := es
      omega
    rw [e2, ← Int.add_emod, show xs[i] + (ys[i] - xs[i]) = ys[i] by omega]
    obtain ⟨h0, h1⟩ := hy _ (List.getElem_mem (show i < ys.length by omega))
    rw [Int.emod_eq_of_lt h0 h1]
  · rw [List.getElem?_eq_none (by omega), List.getElem?_eq_none (by omega)]
    rfl
theorem over_right {m k : Int} {xs ys cs : List Int} {ds : List Deed} (hm : 0 < m) (hl : xs.length = ys.length) (hy : RowOk m ys) (hc : AllC m k ((raw xs ys).map (· % m)) cs) (hz : cs.sum = 0) (hk : k ∈ (raw xs ys).map (· % m)) (h : Over cs ds) : Right m xs ys ds k := by
  have hlen : cs.length = xs.length + 1 := by rw [allC_length hc, List.length_map, raw_length hl]
  obtain ⟨k0, k1⟩ := gaps_ok hm k hk
  refine ⟨fun d hd => ?_, over_behind hm hl hy hc h, k0, by omega, ?_⟩
  · have := h.ok d hd
    rw [hlen] at this
    exact ⟨this.1, this.2.1, by have := this.2.2.1; omega, this.2.2.2⟩
  · rw [bound_chg hm (gaps_ok hm) hc, hz, h.cst]
    omega
def spRows (K : PySem.W.Frag) : Sp := fun vs H Q _ => ∃ (m : Int) (a b : Addr) (xs ys : List Int), vs = [.int m, .ref a, .ref b] ∧ SqL K H a (xs.map V.int) ∧ SqL K H b (ys.map V.int) ∧ xs.length = ys.length ∧ 2 ≤ m ∧ RowOk m xs ∧ RowOk m ys ∧ Q .non H
section
variable {P : Program} {w : World} {K : PySem.W.Frag} {mg : Str → Option Value} {base : Heap} {Tb : List Addr} {C : Addr}
theorem scRows : FnScope ["size", "one", "other"] ["size", "one", "other"] (defScope sRows) := ⟨rfl, rfl, rfl, by decide +kernel, rfl, by decide +kernel, by decide +kernel⟩
theorem ok_rows (D : Def K mg "check_rows" sRows ["size", "one", "other"]) (B : Blt mg) (GS : Callee P w K mg base 2 "check_size" ["size"] spSize) (GR : Callee P w K mg base 2 "check_row" ["size", "row"] (spRow K)) : Callee P w K mg base 3 "check_rows" ["size", "one", "other"] (spRows K) := by
  refine D.ok scRows (fun vs H Q E h => ?_) (fun f cdv A outer s H vs Q E hr h => ?_)
  · obtain ⟨m, a, b, xs, ys, rfl, _⟩ := h
    rfl
  · obtain ⟨m, a, b, xs, ys, rfl, hA, hB, hl, hm, hx, hy, q⟩ := h
    refine ⟨_, pss_cons (ps_expr (pe_c GS hr (by rfl) (pa_cons (pv 0) pa_nil)))
      (pss_cons (ps_expr (pe_c GR hr (by rfl) (pa_cons (pv 0) (pa_cons (pv 1) pa_nil))))
      (pss_cons (ps_expr (pe_c GR hr (by rfl) (pa_cons (pv 0) (pa_cons (pv 2) pa_nil))))
      (pss_one (ps_if (pt_cmpR op_ne (pe_callB call_len_seq (by rfl) B.len PySem.boot_len (pa_cons (pv 1) pa_nil)) (pe_callB call_len_seq (by rfl) B.len PySem.boot_len (pa_cons (pv 2) pa_nil)) (nomark _)) (pss_one ps_never) pss_nil)))), ?_⟩
    refine ⟨_, rfl, m, rfl, hm, _, rfl, _, rfl, m, a, xs, rfl, hA, hx, _, rfl, _, rfl, m, b, ys, rfl, hB, hy, ?_⟩
    refine ⟨_, rfl, a, _, rfl, .inl hA, _, rfl, b, _, rfl, .inl hB, rfl, _, rfl, ?_⟩
    rw [decide_eq_true (show V.int _ = V.int _ by rw [List.length_map, List.length_map, hl])]
    exact iteF q
abbrev NBest : List Str := ["size", "one", "other", "changes", "mark"]
theorem scBest : FnScope NBest ["size", "one", "other"] (defScope sBest) := ⟨rfl, rfl, rfl, by decide +kernel, rfl, by decide +kernel, by decide +kernel⟩
theorem ok_best (D : Def K mg "best" sBest ["size", "one", "other"]) (B : Blt mg) (T : BestCls K mg C) (GR : Callee P w K mg base 3 "check_rows" ["size", "one", "other"] (spRows K)) (GG : Callee P w K mg base 1 "gaps_between" ["size", "one", "other"] (spGaps K))
    (GL : Callee P w K mg base 1 "least_changes" ["size", "gaps"] (spLeast K)) (GO : Callee P w K mg base 1 "deeds_over" ["changes"] (spOver K)) (GK : Makes P w K mg base 1 C ["self", "deeds", "mark"] (spInit K C)) :
    Callee P w K mg base 4 "best" ["size", "one", "other"] (spBest Tb K C) := by
  refine D.ok scBest (fun vs H Q E h => ?_) (fun f cdv A outer s H vs Q E hr h => ?_)
  · obtain ⟨m, a, b, xs, ys, rfl, _⟩ := h
    rfl
  · obtain ⟨m, a, b, xs, ys, rfl, hK, q⟩ := h
    have hr1 : Room 1 _ := hr.mono (by decide)
    have hr2 : Room 2 _ := hr.mono (by decide)
    refine ⟨_, pss_cons (ps_expr (pe_c GR hr (by rfl) (pa_cons (pv 0) (pa_cons (pv 1) (pa_cons (pv 2) pa_nil)))))
      (pss_cons (ps_asg (pe_c GL hr1 (by rfl) (pa_cons (pv 0) (pa_cons (pe_c GG hr1 (by rfl) (pa_cons (pv 0) (pa_cons (pv 1) (pa_cons (pv 2) pa_nil)))) pa_nil))) (pg_tup (by rfl) (pgs_cons (pg_name (i := 3) scBest.nd rfl (.inl rfl)) (pgs_cons (pg_name (i := 4) scBest.nd rfl (.inl rfl)) pgs_nil))))
      (pss_one (ps_ret (pe_k GK hr2 (by rfl) T.g (pa_cons (pe_c GO hr1 (by rfl) (pa_cons (pv 3) pa_nil)) (pa_cons (pv 4) pa_nil)))))), ?_⟩
    have hm : 0 < m := by have := hK.two; omega
    have hl := hK.len
    refine ⟨_, rfl, _, rfl, _, rfl, m, a, b, xs, ys, rfl, hK.one, hK.other, hK.len, hK.two, hK.rone, hK.rother, ?_⟩
    refine ⟨_, rfl, _, rfl, _, rfl, _, rfl, m, a, b, xs, ys, rfl, hK.one, hK.other, hK.len, hK.few, hm, fun H1 g s1 hg0 hg1 => ?_⟩
    obtain ⟨qn, hq1, hq2, hq3⟩ := sizes_of hm hK.len
    have hgl : ((raw xs ys).map (· % m)).length = xs.length + 1 := by rw [List.length_map, raw_length hK.len]
    refine ⟨m, g, _, qn, rfl, SqL.of hg1, hm, hK.big, hq1, hq3, by omega, by have := hK.few; omega, fun H2 t c cs k s2 hc0 ht2 hc2 hall hz hk => ?_⟩
    have t2 := s1.trans s2
    refine ⟨t, _, rfl, .inl (.inl ht2), rfl, _, _, rfl, _, _, rfl, rfl, ?_⟩
    have hcl : cs.length = xs.length + 1 := by rw [allC_length hall, hgl]
    refine ⟨_, rfl, c, cs, rfl, SqL.of hc2, hz, by have := hK.few; omega, fun x hx => Int.le_trans (allC_small hm (gaps_ok hm) hall x hx) (Int.le_of_lt hK.big), fun H3 d as ds s3 hd0 hd3 hD hO => ?_⟩
    have t3 := t2.trans s3
    refine ⟨_, rfl, fun x dx hx0 hdx0 hne => ?_⟩
    have sX : ∀ {H' : Hp}, (∀ b u, b ≠ x → (upd (upd H3 dx (.own x)) x (.ins C dx [])) b = some u → H' b = some u) → Same H3 H' := fun {H'} f => Same.of fun b u e => f b u (ne_of_none e hx0) (by rw [upd_ne (ne_of_none e hx0), upd_ne (ne_of_none e hdx0)]; exact e)
    have s4 : Same H3 (upd (upd H3 dx (.own x)) x (.ins C dx [])) := sX fun b u _ e => e
    have hdl : ds.length ≤ 1001 := by have := hO.few; have := hK.few; omega
    refine ⟨x, d, dx, as, ds, k, rfl, upd_same, SqL.of (s4 _ _ hd3), hD.same s4, by omega, fun H5 p' as' f5 hp0 hB => ⟨rfl, ?_⟩⟩
    have s5 : Same H3 H5 := sX f5
    exact q H5 x p' as' ds k (t3.trans s5) (t3.free hx0) ((t3.trans s4).free hp0) hB (over_right hm hK.len hK.rother hall hz hk hO) (by omega)
theorem scApart : FnScope ["size", "one", "other"] ["size", "one", "other"] (defScope sApart) := ⟨rfl, rfl, rfl, by decide +kernel, rfl, by decide +kernel, by decide +kernel⟩
theorem ok_apart (D : Def K mg "apart" sApart ["size", "one", "other"]) (T : BestCls K mg C) (GB : Callee P w K mg base 4 "best" ["size", "one", "other"] (spBest Tb K C)) (GS : Callee P w K mg base 2 "steps_of" ["deeds"] (spSteps Tb K)) :
    Callee P w K mg base 5 "apart" ["size", "one", "other"] (spApart Tb K) := by
  refine D.ok scApart (fun vs H Q E h => ?_) (fun f cdv A outer s H vs Q E hr h => ?_)
  · obtain ⟨m, a, b, xs, ys, rfl, _⟩ := h
    rfl
  · obtain ⟨m, a, b, xs, ys, rfl, hK, q⟩ := h
    have hr2 : Room 2 _ := hr.mono (by decide)
    refine ⟨_, pss_one (ps_ret (pe_c GS hr2 (by rfl) (pa_cons (pe_fld (pe_c GB hr (by rfl) (pa_cons (pv 0) (pa_cons (pv 1) (pa_cons (pv 2) pa_nil)))) rfl) pa_nil))), ?_⟩
    refine ⟨_, rfl, _, rfl, _, rfl, m, a, b, xs, ys, rfl, hK, fun H1 x p as ds k s1 hx0 hp0 hB hR hdl => ?_⟩
    obtain ⟨⟨dx, fs, hx, fD, fM, _⟩, hp, hT⟩ := hB
    exact ⟨x, C, dx, fs, _, rfl, hx, T.cl, T.nD, fD, p, as, ds, rfl, SqL.of hp, hT, hK.tab.same s1, fun H2 s2 => q H2 _ (s1.trans s2) ⟨ds, k, hR, rfl⟩⟩
end
end DR
namespace DR
open PySem PySem.Spec PyProof.Rows L2
def spLSize (K : PySem.W.Frag) : Sp := fun vs H Q _ => ∃ (a : Addr) (ns : List Int), vs = [.ref a] ∧ SqL K H a (ns.map V.int) ∧ ∀ (m : Int) H', 2 ≤ m → m < 1000000000000000000000 → Same H H' → Q (.int m) H'
section
variable {P : Program} {w : World} {K : PySem.W.Frag} {mg : Str → Option Value} {base : Heap}
theorem scLSize : FnScope ["_law_script", "_law_mixed"] ["_law_script"] (defScope lSize) := ⟨rfl, rfl, rfl, by decide +kernel, rfl, by decide +kernel, by decide +kernel⟩
theorem ok_lSize (D : Def K mg "_law_size" lSize ["_law_script"]) (B : Blt mg) : Callee P w K mg base 1 "_law_size" ["_law_script"] (spLSize K) := by
  refine D.ok scLSize (fun vs H Q E h => ?_) (fun f cdv A outer s H vs Q E hr h => ?_)
  · obtain ⟨a, ns, rfl, _⟩ := h
    rfl
  · obtain ⟨a, ns, rfl, hS, q⟩ := h
    refine ⟨_, pss_cons (ps_set (i := 1) scLSize.nd rfl (.inl rfl) (pe_callB (cr_sum rfl) (by rfl) B.sum PyProof.Rows.boot_sum (pa_cons (pv 0) pa_nil)))
      (pss_one (ps_ret (pe_ix ix_tup (pe_tup (pa_cons pe_int (pa_cons (pe_op op_add pe_int (pe_op op_mod (pe_op op_fdiv (pv 1) pe_int) pe_int)) (pa_cons pe_int (pa_cons (pe_op op_add (pe_op op_pow pe_int pe_int) (pe_op op_mod (pv 1) pe_int)) (pa_cons pe_int pa_nil))))))
        (pe_op op_mod (pe_op op_fdiv (pv 1) pe_int) pe_int) (fun _ _ => rfl)))), ?_⟩
    refine ⟨_, rfl, a, ns, rfl, hS, ?_⟩
    generalize ns.sum = S
    refine ⟨_, rfl, S, 5, rfl, rfl, ⟨by decide, by decide⟩, _, 5, rfl, rfl, (by show (0 : Int) < 5; decide), _, _, rfl, rfl, 10, 20, rfl, rfl, ⟨by decide, by decide, by decide⟩, _, rfl, S, 1000, rfl, rfl, (by show (0 : Int) < 1000; decide), _, _, rfl, rfl, (by show 5 ≤ sizeLine; decide), fun t ht => ?_⟩
    refine ⟨_, rfl, S, 11, rfl, rfl, ⟨by decide, by decide⟩, _, 5, rfl, rfl, (by show (0 : Int) < 5; decide), ?_⟩
    obtain ⟨k, hk, hk5⟩ : ∃ k : Nat, S / 11 % 5 = (k : Int) ∧ k < 5 := ⟨(S / 11 % 5).toNat, by omega, by omega⟩
    have hL : ∀ x ∈ ([2, 3 + S / 5 % 5, 10, 10 ^ (20 : Int).toNat + S % 1000, 60] : List Int), 2 ≤ x ∧ x < 1000000000000000000000 := by
      intro x hx
      have e : (10 : Int) ^ (20 : Int).toNat = 100000000000000000000 := by decide
      rw [e] at hx
      simp only [List.mem_cons, List.not_mem_nil, or_false] at hx
      omega
    have hlen : k < ([2, 3 + S / 5 % 5, 10, 10 ^ (20 : Int).toNat + S % 1000, 60] : List Int).length := hk5
    obtain ⟨b1, b2⟩ := hL _ (List.getElem_mem hlen)
    refine ⟨t, _, _, .int _, rfl, rfl, SqT.of upd_same, at_of hk (at_map (f := V.int) (List.getElem?_eq_getElem hlen)), ?_⟩
    exact q _ _ b1 b2 (same_new ht)
end
end DR
namespace DR
open PySem PySem.Spec PyProof.Rows L2
/-- how many dials the law's rows have -/
def rowLen (ns : List Int) : Nat := if ns.sum / 21 % 9 = 4 ∧ ns ≠ [] then 70 + (ns.sum % 30).toNat else ns.length
theorem rowLen_le {ns : List Int} (h : ns.length ≤ 63) : rowLen ns ≤ 99 := by
  unfold rowLen
  split <;> omega
theorem rowLen_nil {ns : List Int} : rowLen ns = 0 ↔ ns = [] := by
  unfold rowLen
  by_cases h : ns.sum / 21 % 9 = 4 ∧ ns ≠ []
  · rw [if_pos h]
    exact ⟨fun e => by omega, fun e => absurd e h.2⟩
  · rw [if_neg h]
    exact List.length_eq_zero_iff
def spLRow (K : PySem.W.Frag) : Sp := fun vs H Q _ => ∃ (a : Addr) (ns : List Int) (m by' : Int), vs = [.ref a, .int m, .int by'] ∧ SqL K H a (ns.map V.int) ∧ 2 ≤ m ∧ m < 1000000000000000000000 ∧ 0 ≤ by' ∧ by' ≤ 3 ∧ ns.length ≤ 63 ∧
  ∀ (rs : List Int) H' p, Same H H' → H p = none → H' p = some (.lst (rs.map V.int)) → RowOk m rs → rs.length = rowLen ns → Q (.ref p) H'
theorem log_of {j : Int} (h : 0 < j) (h2 : j < 10000000000000000000000) : CDivW 0 j := wide_div (b := 80) h (by omega) (by decide) (by decide)
theorem rowOk_nil {m : Int} : RowOk m [] := fun x hx => nomatch hx
section
variable {P : Program} {w : World} {K : PySem.W.Frag} {mg : Str → Option Value} {base : Heap}
theorem scLRow : FnScope ["_law_script", "_law_size_here", "_law_by", "_law_mixed", "_law_found", "_law_last", "_law_cell", "_law_figure", "_law_some", "_law_at"] ["_law_script", "_law_size_here", "_law_by"] (defScope lRow) := ⟨rfl, rfl, rfl, by decide +kernel, rfl, by decide +kernel, by decide +kernel⟩
theorem ok_lRow (D : Def K mg "_law_row" lRow ["_law_script", "_law_size_here", "_law_by"]) (B : Blt mg) : Callee P w K mg base 1 "_law_row" ["_law_script", "_law_size_here", "_law_by"] (spLRow K) := by
  refine D.ok scLRow (fun vs H Q E h => ?_) (fun f cdv A outer s H vs Q E hr h => ?_)
  · obtain ⟨a, ns, m, b, rfl, _⟩ := h
    rfl
  · obtain ⟨a, ns, m, b, rfl, hS, hm, hm2, hb0, hb3, hlen, q⟩ := h
    refine ⟨_, pss_cons (ps_set (i := 3) scLRow.nd rfl (.inl rfl) (pe_callB (cr_sum rfl) (by rfl) B.sum PyProof.Rows.boot_sum (pa_cons (pv 0) pa_nil)))
      (pss_cons (ps_set (i := 4) scLRow.nd rfl (.inl rfl) (pe_lst pa_nil))
      (pss_cons (ps_set (i := 5) scLRow.nd rfl (.inl rfl) pe_int)
      (pss_cons (ps_for PassesOwn.never rfl (pi_list (pv 0)) (pg_name (i := 6) scLRow.nd rfl (.inl rfl))
        (pss_cons (ps_set (i := 7) scLRow.nd rfl (.inl rfl) (pe_op op_mod (pe_op op_fdivW (pv 6) (pe_ix ix_tup (pe_tup (pa_cons pe_int (pa_cons (pv 1) (pa_cons pe_int (pa_cons (pe_op op_mul (pv 1) pe_int) pa_nil))))) (pe_op op_mod (pv 2) pe_int) (fun _ _ => rfl))) (pv 1)))
        (Evl.pss_cut (ps_if (pt_cmpR op_eq (pe_op op_mod (pe_op op_fdiv (pv 3) pe_int) pe_int) pe_int (nomark _))
          (pss_one (ps_set (i := 7) scLRow.nd rfl (.inl rfl) (pe_op op_mod (pe_op op_sub (pe_op op_add (pv 5) (pe_op op_mod (pv 7) pe_int)) pe_int) (pv 1)))) pss_nil)
        (pss_cons (ps_set (i := 5) scLRow.nd rfl (.inl rfl) (pv 7))
        (pss_one (ps_expr (pe_bm PySem.F.plainAttrs_list PySem.F.slot_list_append PySem.F.type_list_append mt_append (pv 4) (pa_cons (pv 7) pa_nil))))))))
      (pss_cons (ps_if (PW.pt (pw_and (pt_cmpR op_eq (pe_op op_mod (pe_op op_fdiv (pv 3) pe_int) pe_int) pe_int (nomark _)) (pw_and1 (pt_cmpR (op_neD hr.units) (pv 4) (pe_lst pa_nil) (nomark _)))))
        (pss_cons (ps_set (i := 8) scLRow.nd rfl (.inl rfl) (pv 4))
        (pss_cons (ps_set (i := 4) scLRow.nd rfl (.inl rfl) (pe_lst pa_nil))
        (pss_one (ps_for PassesOwn.never rfl (pi_range1 rfl B.range (pa_cons (pe_op op_add pe_int (pe_op op_mod (pv 3) pe_int)) pa_nil)) (pg_name (i := 9) scLRow.nd rfl (.inl rfl))
          (pss_cons (ps_set (i := 7) scLRow.nd rfl (.inl rfl) (pe_ix ix_list (pv 8) (pe_op op_mod (pe_op op_mul (pv 9) (pe_op op_add (pv 2) pe_int)) (pe_callB call_len_seq (by rfl) B.len PySem.boot_len (pa_cons (pv 8) pa_nil))) (fun _ _ => rfl)))
          (pss_one (ps_expr (pe_bm PySem.F.plainAttrs_list PySem.F.slot_list_append PySem.F.type_list_append mt_append (pv 4) (pa_cons (pe_op op_mod (pe_op op_add (pv 7) (pe_op op_mul (pe_op op_fdiv (pv 9) (pe_callB call_len_seq (by rfl) B.len PySem.boot_len (pa_cons (pv 8) pa_nil))) (pv 2))) (pv 1)) pa_nil))))))))) pss_nil)
      (pss_one (ps_ret (pv 4))))))), ?_⟩
    refine ⟨_, rfl, a, ns, rfl, hS, ?_⟩
    have hrl : rowLen ns = if ns.sum / 21 % 9 = 4 ∧ ns ≠ [] then 70 + (ns.sum % 30).toNat else ns.length := rfl
    generalize ns.sum = S at hrl
    refine ⟨Nat.zero_le _, fun p hp => ?_⟩
    have hmp : 0 < m := by omega
    refine ⟨_, rfl, a, rfl, ⟨_, (same_new hp).seq hS⟩, for_list (K := K) (a := a) (xs := ns.map V.int)
      (fun i σ H2 => ∃ (rs : List Int) (last : Int) (x6 x7 : Option V), σ = [some (.ref a), some (.int m), some (.int b), some (.int S), some (.ref p), some (.int last), x6, x7, none, none] ∧ Same H H2 ∧ H2 p = some (.lst (rs.map V.int)) ∧ RowOk m rs ∧ rs.length = i)
      ⟨[], 0, none, none, rfl, same_new hp, upd_same, rowOk_nil, rfl⟩ (fun i σ H2 _ h => by obtain ⟨_, _, _, _, _, sm, _⟩ := h; exact sm.seq hS) ?_ ?_⟩
    · rintro i y σ H2 hi ⟨rs, last, x6, x7, rfl, sm, hp2, hR, hl⟩
      obtain ⟨z, hz, rfl⟩ := map_at hi
      have hi63 := at_lt hz
      refine ⟨_, rfl, _, rfl, _, rfl, m, 5, rfl, rfl, .inr ⟨by decide, by decide⟩, (by show 4 ≤ sizeLine; decide), fun t ht => ?_⟩
      have sm3 : Same H2 (upd H2 t (.tup [.int 1, .int m, .int 7, .int (m * 5)])) := same_new ht
      obtain ⟨k, hk, hk4⟩ : ∃ k : Nat, b % 4 = (k : Int) ∧ k < 4 := ⟨(b % 4).toNat, by omega, by omega⟩
      have hL : ∀ x ∈ ([1, m, 7, m * 5] : List Int), 0 < x ∧ x < 10000000000000000000000 := by
        intro x hx
        simp only [List.mem_cons, List.not_mem_nil, or_false] at hx
        omega
      have hlk : k < ([1, m, 7, m * 5] : List Int).length := hk4
      obtain ⟨b1, b2⟩ := hL _ (List.getElem_mem hlk)
      refine ⟨_, rfl, b, 4, rfl, rfl, (by show (0 : Int) < 4; decide), t, _, _, .int _, rfl, rfl, SqT.of upd_same, at_of hk (at_map (f := V.int) (List.getElem?_eq_getElem hlk)), z, _, rfl, rfl, ⟨b1, (log_of b1 b2).2⟩, ?_⟩
      refine ⟨_, rfl, _, m, rfl, rfl, hmp, ?_⟩
      have g1 := Int.emod_nonneg (z / ([1, m, 7, m * 5] : List Int)[k]) (show m ≠ 0 by omega)
      have g2 := Int.emod_lt_of_pos (z / ([1, m, 7, m * 5] : List Int)[k]) hmp
      -- near one another
      refine ⟨fun σ H3 => ∃ fg : Int, 0 ≤ fg ∧ fg < m ∧ σ = [some (.ref a), some (.int m), some (.int b), some (.int S), some (.ref p), some (.int last), some (.int z), some (.int fg), none, none] ∧ Same H H3 ∧ H3 p = some (.lst (rs.map V.int)), ?_, ?_⟩
      · have hp3 : (upd H2 t (.tup [.int 1, .int m, .int 7, .int (m * 5)])) p = some (.lst (rs.map V.int)) := by rw [upd_ne (ne_of_none hp2 ht)]; exact hp2
        refine ⟨_, rfl, S, 7, rfl, rfl, ⟨by decide, by decide⟩, _, 3, rfl, rfl, (by show (0 : Int) < 3; decide), rfl, _, rfl, ite2 (fun e => ?_) (fun e => ?_)⟩
        · refine ⟨_, rfl, _, rfl, _, 3, rfl, rfl, (by show (0 : Int) < 3; decide), _, _, rfl, rfl, _, _, rfl, rfl, _, rfl, _, m, rfl, rfl, hmp, ?_⟩
          exact ⟨_, Int.emod_nonneg _ (by omega), Int.emod_lt_of_pos _ hmp, rfl, sm.trans sm3, hp3⟩
        · exact ⟨_, g1, g2, rfl, sm.trans sm3, hp3⟩
      · rintro σ H3 ⟨fg, h1, h2, rfl, sm4, hp4⟩
        refine ⟨_, rfl, _, rfl, .inl ⟨rfl, _, SqL.of hp4⟩, _, rfl, p, _, _, rfl, rfl, hp4, ?_, ?_⟩
        · rw [List.length_map]
          exact line_lt (by omega)
        · refine ⟨rs ++ [fg], fg, some (.int z), some (.int fg), rfl, smut sm4 hp, ?_, ?_, ?_⟩
          · rw [upd_same, List.map_append]; rfl
          · intro x hx
            rcases List.mem_append.mp hx with h | h
            · exact hR x h
            · have : x = fg := by simpa using h
              subst this
              exact ⟨h1, h2⟩
          · rw [List.length_append, hl]; rfl
    · rintro σ H2 ⟨rs, last, x6, x7, rfl, sm, hp2, hR, hl⟩
      rw [List.length_map] at hl
      refine ⟨_, rfl, S, 21, rfl, rfl, ⟨by decide, by decide⟩, _, 9, rfl, rfl, (by show (0 : Int) < 9; decide), rfl, _, rfl, ite2 (fun e => ?_) (fun e => ?_)⟩
      · have e1 : S / 21 % 9 = 4 := V.int.inj (of_decide_eq_true e)
        refine ⟨_, rfl, Nat.zero_le _, fun c hc => ?_⟩
        have hp3 : (upd H2 c (.lst [])) p = some (.lst (rs.map V.int)) := by rw [upd_ne (ne_of_none hp2 hc)]; exact hp2
        refine ⟨dI rs, dI [], dp_lst (SqL.of hp3), dp_lst (ns := []) (SqL.of upd_same), sh_dI _, sh_dI _, _, rfl, ?_⟩
        rw [eqv_dI]
        by_cases hrs : rs = []
        · rw [decide_eq_true hrs]
          refine iteF ⟨_, rfl, q rs _ p (smut sm (sm.free hc)) hp hp3 hR ?_⟩
          have hn : ns = [] := by
            rw [← List.length_eq_zero_iff, ← hl, hrs]
            rfl
          rw [hrl, if_neg (fun z => z.2 hn), hl]
        · rw [decide_eq_false hrs]
          have hn0 : 0 < rs.length := List.length_pos_iff.mpr hrs
          refine iteT ⟨_, rfl, Nat.zero_le _, fun d hd => ?_⟩
          have hcH : H c = none := sm.free hc
          have sm4 : Same H (upd (upd H2 c (.lst [])) d (.lst [])) := (smut sm hcH).trans (same_new hd)
          have hdH : H d = none := (smut (o := .lst []) sm hcH).free hd
          have hpd : p ≠ d := ne_of_none hp3 hd
          have c0 := Int.emod_nonneg S (show (30 : Int) ≠ 0 by decide)
          have c1 := Int.emod_lt_of_pos S (show (0 : Int) < 30 by decide)
          have hrl2 : rowLen ns = 70 + (S % 30).toNat := by
            rw [hrl, if_pos ⟨e1, fun z => hrs (by rw [← List.length_eq_zero_iff, hl, z]; rfl)⟩]
          refine ⟨_, rfl, S, 30, rfl, rfl, (by show (0 : Int) < 30; decide), 70, _, rfl, rfl, _, rfl, by omega, by omega, for_range (lo := 0) (n := (70 + S % 30).toNat)
            (fun i σ H4 => ∃ (ts : List Int) (x7 x9 : Option V), σ = [some (.ref a), some (.int m), some (.int b), some (.int S), some (.ref d), some (.int last), x6, x7, some (.ref p), x9] ∧ Same H H4 ∧ H4 p = some (.lst (rs.map V.int)) ∧ H4 d = some (.lst (ts.map V.int)) ∧ RowOk m ts ∧ ts.length = i)
            ⟨[], x7, none, rfl, sm4, by rw [upd_ne hpd]; exact hp3, upd_same, rowOk_nil, rfl⟩ ?_ ?_⟩
          · rintro i σ H4 hi ⟨ts, x7, x9, rfl, sm5, hp5, hd5, hT, hl5⟩
            have hlr : rs.length ≤ 63 := by omega
            have hlp : (0 : Int) < ((rs.map V.int).length : Int) := by rw [List.length_map]; omega
            have j0 := Int.emod_nonneg ((0 + (i : Int)) * (b + 1)) (show ((rs.map V.int).length : Int) ≠ 0 by omega)
            have j1 := Int.emod_lt_of_pos ((0 + (i : Int)) * (b + 1)) hlp
            obtain ⟨k, hk⟩ : ∃ k : Nat, (0 + (i : Int)) * (b + 1) % ((rs.map V.int).length : Int) = (k : Int) := ⟨((0 + (i : Int)) * (b + 1) % ((rs.map V.int).length : Int)).toNat, by omega⟩
            have hk2 : k < rs.length := by rw [hk, List.length_map] at j1; omega
            refine ⟨_, rfl, _, rfl, _, rfl, b, 1, rfl, rfl, _, _, rfl, rfl, .inr ⟨by omega, by omega⟩, _, rfl, p, _, rfl, .inl (SqL.of hp5), _, _, rfl, rfl, hlp, p, _, _, .int _, rfl, rfl, SqL.of hp5, at_of hk (at_map (List.getElem?_eq_getElem hk2)), ?_⟩
            refine ⟨_, rfl, .inl ⟨rfl, _, SqL.of hd5⟩, _, rfl, _, rfl, _, rfl, p, _, rfl, .inl (SqL.of hp5), _, _, rfl, rfl, ⟨hlp, by rw [List.length_map]; omega⟩, _, rfl, _, b, rfl, rfl, .inr ⟨by omega, by omega⟩, _, _, rfl, rfl, _, rfl, _, m, rfl, rfl, hmp, d, _, _, rfl, rfl, hd5, ?_, ?_⟩
            · rw [List.length_map]
              exact line_lt (by omega)
            · refine ⟨ts ++ [(rs[k] + (0 + (i : Int)) / ((rs.map V.int).length : Int) * b) % m], some (.int rs[k]), some (.int (0 + (i : Int))), rfl, smut sm5 hdH, by rw [upd_ne hpd]; exact hp5, ?_, ?_, ?_⟩
              · rw [upd_same, List.map_append]; rfl
              · intro x hx
                rcases List.mem_append.mp hx with h | h
                · exact hT x h
                · have : x = _ := List.mem_singleton.mp h
                  subst this
                  exact ⟨Int.emod_nonneg _ (by omega), Int.emod_lt_of_pos _ hmp⟩
              · rw [List.length_append, hl5]; rfl
          · rintro σ H4 ⟨ts, x7, x9, rfl, sm5, hp5, hd5, hT, hl5⟩
            exact ⟨_, rfl, q ts H4 d sm5 hdH hd5 hT (by rw [hl5, hrl2]; omega)⟩
      · have e1 : ¬ S / 21 % 9 = 4 := fun z => e (decide_eq_true (congrArg V.int z))
        refine iteF ⟨_, rfl, q rs _ p sm hp hp2 hR ?_⟩
        rw [hrl, if_neg (fun z => e1 z.1), hl]
end
end DR
namespace DR
open PySem PySem.Spec PyProof.Rows L2
/-! ### the rows met, in the heap -/
def keyOf (y : List Int) : List Key := y.map Sum.inl
theorem keyOf_V (y : List Int) : (keyOf y).map kV = y.map V.int := by
  unfold keyOf
  rw [List.map_map]; rfl
theorem keyOf_inj {y z : List Int} (h : keyOf y = keyOf z) : y = z := by
  have := congrArg (fun l => l.map kV) h
  simp only [keyOf_V] at this
  exact (List.map_inj_right (fun a b e => V.int.inj e)).mp this
def metK (es : Met) : List (List Key × V) := es.map fun e => (keyOf e.1, V.int e.2)
theorem met_none {y : List Int} : ∀ {es : Met}, valV (metK es) (keyOf y) = none → ∀ c, (y, c) ∉ es
  | [], _, c, h => nomatch h
  | (z, a) :: r, h, c, hm => by
    have e : metK ((z, a) :: r) = (keyOf z, V.int a) :: metK r := rfl
    rw [e] at h
    by_cases q : keyOf z = keyOf y
    · rw [valV_pos q] at h; cases h
    · rw [valV_neg q] at h
      rcases List.mem_cons.mp hm with g | g
      · exact q (by rw [(Prod.mk.inj g).1])
      · exact met_none h c g
theorem met_some {y : List Int} {v : V} : ∀ {es : Met}, valV (metK es) (keyOf y) = some v → ∃ c, v = .int c ∧ (y, c) ∈ es
  | [], h => nomatch h
  | (z, a) :: r, h => by
    have e : metK ((z, a) :: r) = (keyOf z, V.int a) :: metK r := rfl
    rw [e] at h
    by_cases q : keyOf z = keyOf y
    · rw [valV_pos q] at h
      exact ⟨a, (Option.some.inj h).symm, by rw [keyOf_inj q]; exact List.mem_cons_self⟩
    · rw [valV_neg q] at h
      obtain ⟨c, h1, h2⟩ := met_some h
      exact ⟨c, h1, List.mem_cons_of_mem _ h2⟩
theorem met_val {y : List Int} {c : Int} {es : Met} (hn : (es.map (·.1)).Nodup) (h : (y, c) ∈ es) : valV (metK es) (keyOf y) = some (.int c) := by
  cases e : valV (metK es) (keyOf y) with
  | none => exact absurd h (met_none e c)
  | some v =>
    obtain ⟨d, h1, h2⟩ := met_some e
    rw [h1, key_one hn h h2]
structure Wt (H : Hp) (d q : Addr) (as : List Addr) (es : Met) : Prop where
  dict : H d = some (.dT (metK es))
  lst : H q = some (.lst (as.map V.ref))
  len : as.length = es.length
  row : ∀ (j : Nat) (a : Addr), as[j]? = some a → a ≠ q ∧ ∃ e, es[j]? = some e ∧ H a = some (.lst (e.1.map V.int))
theorem Wt.same {H H' : Hp} {d q : Addr} {as : List Addr} {es : Met} (h : Wt H d q as es) (s : Same H H') : Wt H' d q as es :=
  ⟨s _ _ h.dict, s _ _ h.lst, h.len, fun j a e => let ⟨n, x, h1, h2⟩ := h.row j a e; ⟨n, x, h1, s _ _ h2⟩⟩
theorem Wt.add {H : Hp} {d q t : Addr} {as : List Addr} {es : Met} {y : List Int} {c : Int} (h : Wt H d q as es) (ht : H t = some (.lst (y.map V.int))) (hq : t ≠ q) :
    Wt (upd (upd H d (.dT (metK es ++ [(keyOf y, .int c)]))) q (.lst (as.map V.ref ++ [.ref t]))) d q (as ++ [t]) (es ++ [(y, c)]) := by
  have ndq : d ≠ q := ne_of h.dict h.lst (by intro z; cases z)
  have keep : ∀ {a : Addr} {l : List V}, a ≠ q → H a = some (.lst l) → (upd (upd H d (.dT (metK es ++ [(keyOf y, .int c)]))) q (.lst (as.map V.ref ++ [.ref t]))) a = some (.lst l) := fun {a l} n e => by
    rw [upd_ne n, upd_ne (ne_of e h.dict (by intro z; cases z))]; exact e
  refine ⟨?_, by rw [upd_same, List.map_append]; rfl, by rw [List.length_append, List.length_append, h.len]; rfl, fun j a e => ?_⟩
  · rw [upd_ne ndq, upd_same]
    unfold metK
    rw [List.map_append]; rfl
  · by_cases hj : j < as.length
    · rw [List.getElem?_append_left hj] at e
      obtain ⟨n, x, h1, h2⟩ := h.row j a e
      exact ⟨n, x, by rw [List.getElem?_append_left (by rw [← h.len]; exact hj)]; exact h1, keep n h2⟩
    · rw [List.getElem?_append_right (by omega)] at e
      have hz : j - as.length = 0 := by
        have := (List.getElem?_eq_some_iff.mp e).1
        simp at this
        omega
      rw [hz] at e
      have : t = a := Option.some.inj e
      subst this
      exact ⟨hq, (y, c), by rw [List.getElem?_append_right (by rw [← h.len]; omega), ← h.len, hz]; rfl, keep hq ht⟩
/-- a stretch of a row turned by a step -/
theorem stretch {n : Int} {row : List Int} (hr : RowOk n row) {f e : Nat} {s : Int} (h1 : f ≤ e) (h2 : e ≤ row.length) :
    row.take f ++ ((row.drop f).take (e - f)).map (fun x => (x + s) % n) ++ row.drop e = behind n row [((f : Int), (e : Int), s)] := by
  refine List.ext_getElem? fun i => ?_
  rw [behind_get]
  have cv : cover [((f : Int), (e : Int), s)] (i : Int) = (if (f : Int) ≤ i ∧ (i : Int) < e then s else 0) + 0 := rfl
  rw [cv]
  have l1 : (row.take f).length = f := by rw [List.length_take]; omega
  have l2 : (((row.drop f).take (e - f)).map (fun x => (x + s) % n)).length = e - f := by rw [List.length_map, List.length_take, List.length_drop]; omega
  have id' : ∀ {x : Int}, row[i]? = some x → some x = (row[i]?).map fun x => (x + (0 + 0)) % n := fun {x} hx => by
    obtain ⟨a, b⟩ := hr x (List.mem_of_getElem? hx)
    rw [hx]
    show some x = some ((x + (0 + 0)) % n)
    rw [show x + (0 + 0) = x by omega, Int.emod_eq_of_lt a b]
  by_cases c1 : i < f
  · rw [if_neg (by omega), List.append_assoc, List.getElem?_append_left (by omega), List.getElem?_take, if_pos c1]
    cases hx : row[i]? with
    | none => rfl
    | some x =>
      have := id' hx
      rw [hx] at this
      exact this
  · by_cases c2 : i < e
    · rw [if_pos (by omega), List.getElem?_append_left (by rw [List.length_append]; omega), List.getElem?_append_right (by omega), l1, List.getElem?_map, List.getElem?_take, if_pos (by omega), List.getElem?_drop, show f + (i - f) = i by omega, Int.add_zero]
    · rw [if_neg (by omega), List.getElem?_append_right (by rw [List.length_append]; omega), List.length_append, l1, l2, List.getElem?_drop, show e + (i - (f + (e - f))) = i by omega]
      cases hx : row[i]? with
      | none => rfl
      | some x =>
        have := id' hx
        rw [hx] at this
        exact this
theorem cut_mid (xs : List V) {i j : Nat} (h : i ≤ j) (h2 : j ≤ xs.length) : cutV xs (some (i : Int)) (some (j : Int)) = (xs.drop i).take (j - i) := by
  unfold cutV
  rw [HT.sIx_nat, HT.sIx_nat, Nat.min_eq_left (show i ≤ xs.length by omega), Nat.min_eq_left h2]
def spLWalked (K : PySem.W.Frag) : Sp := fun vs H Q _ => ∃ (n : Nat) (s : Addr) (row : List Int), vs = [.int (n : Int), .ref s] ∧ SqL K H s (row.map V.int) ∧ 2 ≤ n ∧ n ≤ 4 ∧ RowOk n row ∧ row.length ≤ 3 ∧
  ∀ H' d (es : Met) (k : Nat), Same H H' → H' d = some (.dT (metK es)) → Walked n row es k → es.length ≤ k → Q (.ref d) H'
section
variable {P : Program} {w : World} {K : PySem.W.Frag} {mg : Str → Option Value} {base : Heap} {Tb : List Addr}
abbrev NLWalked : List Str := ["_law_size_here", "_law_start", "_law_met", "_law_waiting", "_law_at", "_law_row_here", "_law_first", "_law_end", "_law_step", "_law_here", "_law_figure"]
theorem scLWalked : FnScope NLWalked ["_law_size_here", "_law_start"] (defScope lWalked) := ⟨rfl, rfl, rfl, by decide +kernel, rfl, by decide +kernel, by decide +kernel⟩
theorem ok_lWalked (D : Def K mg "_law_walked" lWalked ["_law_size_here", "_law_start"]) (B : Blt mg) : Callee P w K mg base 1 "_law_walked" ["_law_size_here", "_law_start"] (spLWalked K) := by
  refine D.ok scLWalked (fun vs H Q E h => ?_) (fun f cdv A outer s H vs Q E hr h => ?_)
  · obtain ⟨n, s, row, rfl, _⟩ := h
    rfl
  · obtain ⟨n, sa, start, rfl, hS, hn2, hn4, hR0, hlen, q⟩ := h
    refine ⟨_, pss_cons (ps_set (i := 2) scLWalked.nd rfl (.inl rfl) pe_dnewT)
      (pss_cons (ps_dput (hu_of hr) (pv 2) (pe_callTy call_tuple_of (by rfl) B.tuple PyProof.Rows.boot_tuple (pa_cons (pv 1) pa_nil)) pe_int rfl)
      (pss_cons (ps_set (i := 3) scLWalked.nd rfl (.inl rfl) (pe_lst (pa_cons (pe_callTy call_list_of (by rfl) B.list PyProof.Rows.boot_list (pa_cons (pv 1) pa_nil)) pa_nil)))
      (pss_cons (ps_set (i := 4) scLWalked.nd rfl (.inl rfl) pe_int)
      (pss_cons (ps_while PassesOwn.never (pt_cmpR op_lt (pv 4) (pe_callB call_len_seq (by rfl) B.len PySem.boot_len (pa_cons (pv 3) pa_nil)) (nomark _))
        (pss_cons (ps_set (i := 5) scLWalked.nd rfl (.inl rfl) (pe_ix ix_list (pv 3) (pv 4) (fun _ _ => rfl)))
        (pss_cons (ps_set (i := 4) scLWalked.nd rfl (.inl rfl) (pe_op op_add (pv 4) pe_int))
        (pss_one (ps_for PassesOwn.never rfl (pi_range1 rfl B.range (pa_cons (pe_callB call_len_seq (by rfl) B.len PySem.boot_len (pa_cons (pv 5) pa_nil)) pa_nil)) (pg_name (i := 6) scLWalked.nd rfl (.inl rfl))
          (pss_one (ps_for PassesOwn.never rfl (pi_range2 (by rfl) B.range (pa_cons (pe_op op_add (pv 6) pe_int) (pa_cons (pe_op op_add (pe_callB call_len_seq (by rfl) B.len PySem.boot_len (pa_cons (pv 5) pa_nil)) pe_int) pa_nil))) (pg_name (i := 7) scLWalked.nd rfl (.inl rfl))
            (pss_one (ps_for PassesOwn.never rfl (pi_list (pe_lst (pa_cons pe_int (pa_cons (pe_un un_neg pe_int) pa_nil)))) (pg_name (i := 8) scLWalked.nd rfl (.inr rfl))
              (pss_cons (ps_set (i := 9) scLWalked.nd rfl (.inl rfl) (pe_op op_cat (pe_op op_cat (pe_slice sl_list (pv 5) po_none (po_some (pv 6)))
                  (pe_lc (own := [("_law_figure", 10)]) (g := gName 10) (tt := tYes) rfl scLWalked.nd (pi_list (pe_slice sl_list (pv 5) (po_some (pv 6)) (po_some (pv 7)))) (blkOk_by (N := NLWalked) (sc := defScope lWalked) (by decide +kernel)) (fun _ _ _ _ _ => pg_name (i := 10) scLWalked.nd rfl (.inl rfl)) (fun _ _ _ _ _ => pts_nil)
                    (fun _ _ _ _ _ => pe_op op_mod (pe_op op_add (pv 10) (pv 8)) (pv 0)))) (pe_slice sl_list (pv 5) (po_some (pv 7)) po_none)))
              (pss_one (ps_if (pt_cmp (pc_dnotin (hu_of hr) (pe_callTy call_tuple_of (by rfl) B.tuple PyProof.Rows.boot_tuple (pa_cons (pv 9) pa_nil)) (pv 2)))
                (pss_cons (ps_dput (hu_of hr) (pv 2) (pe_callTy call_tuple_of (by rfl) B.tuple PyProof.Rows.boot_tuple (pa_cons (pv 9) pa_nil)) (pe_op op_add (pe_dget (hu_of hr) (pv 2) (pe_callTy call_tuple_of (by rfl) B.tuple PyProof.Rows.boot_tuple (pa_cons (pv 5) pa_nil)) (fun _ _ => rfl)) pe_int) rfl)
                (pss_one (ps_expr (pe_bm PySem.F.plainAttrs_list PySem.F.slot_list_append PySem.F.type_list_append mt_append (pv 3) (pa_cons (pv 9) pa_nil))))) pss_nil))))))))))))
      (pss_one (ps_ret (pv 2))))))), ?_⟩
    have hn0 : (0 : Int) < (n : Int) := by omega
    refine fun d hd => ?_
    have w1 : Same H (upd H d (.dT [])) := same_new hd
    have e1 : (upd H d (.dT [])) d = some (.dT []) := upd_same
    generalize upd H d (.dT []) = H1 at w1 e1 ⊢
    refine ⟨_, rfl, _, rfl, sa, _, rfl, .inl ⟨w1.seq hS, fun T hT => ?_⟩⟩
    have w2 : Same H1 (upd H1 T (.tup (start.map V.int))) := same_new hT
    have e2 : (upd H1 T (.tup (start.map V.int))) T = some (.tup ((keyOf start).map kV)) := by rw [upd_same, keyOf_V]
    generalize upd H1 T (.tup (start.map V.int)) = H2 at w2 e2 ⊢
    refine ⟨d, _, rfl, DPut.t (w2 _ _ e1) e2 (by show 0 < sizeLine; decide), ?_⟩
    have w3 : Same H (upd H2 d (.dT (putK [] (keyOf start) (V.int 0)))) := smut (w1.trans w2) hd
    have e3 : (upd H2 d (.dT (putK [] (keyOf start) (V.int 0)))) d = some (.dT (metK [(start, 0)])) := by rw [upd_same, putK_new _ valV_nil]; rfl
    generalize upd H2 d (.dT (putK [] (keyOf start) (V.int 0))) = H3 at w3 e3 ⊢
    refine ⟨_, rfl, sa, _, rfl, .inl (w3.seq hS), fun r0 hr0 => ?_⟩
    have w4 : Same H3 (upd H3 r0 (.lst (start.map V.int))) := same_new hr0
    have e4 : (upd H3 r0 (.lst (start.map V.int))) r0 = some (.lst (start.map V.int)) := upd_same
    generalize upd H3 r0 (.lst (start.map V.int)) = H4 at w4 e4 ⊢
    refine ⟨(by show 1 ≤ sizeLine; decide), fun q0 hq0 => ?_⟩
    have w5 : Same H4 (upd H4 q0 (.lst [.ref r0])) := same_new hq0
    have e5 : (upd H4 q0 (.lst [.ref r0])) q0 = some (.lst [.ref r0]) := upd_same
    have nrq : r0 ≠ q0 := ne_of_none e4 hq0
    have hq00 : H q0 = none := (w3.trans w4).free hq0
    generalize upd H4 q0 (.lst [.ref r0]) = H5 at w5 e5 ⊢
    have hW5 : Wt H5 d q0 [r0] [(start, 0)] := ⟨w5 _ _ (w4 _ _ e3), e5, rfl, fun j a e => by
      match j, e with
      | 0, e =>
        have : r0 = a := Option.some.inj e
        subst this
        exact ⟨nrq, _, rfl, w5 _ _ e4⟩
      | j + 1, e => simp at e⟩
    have s5 : Same H H5 := (w3.trans w4).trans w5
    refine ⟨fun mm σ H' => ∃ (es : Met) (k : Nat) (as : List Addr) (x5 x6 x7 x8 x9 : Option V), σ = [some (.int (n : Int)), some (.ref sa), some (.ref d), some (.ref q0), some (.int (k : Int)), x5, x6, x7, x8, x9, none] ∧ Same H H' ∧ mm = 64 - k ∧ Walked n start es k ∧ Wt H' d q0 as es,
      ⟨64, [(start, 0)], 0, [r0], none, none, none, none, none, rfl, s5, rfl, Walked.start start hR0, hW5⟩, ?_⟩
    rintro mm σ H6 ⟨es, k, as, x5, x6, x7, x8, x9, rfl, s6, rfl, hWk, hWt⟩
    have hfew := hWk.few hn2 hn4 hlen
    refine ⟨_, rfl, _, rfl, q0, _, rfl, .inl (SqL.of hWt.lst), _, _, rfl, rfl, _, rfl, ?_⟩
    by_cases hk : k < es.length
    · rw [decide_eq_true (show (k : Int) < ((as.map V.ref).length : Int) by rw [List.length_map, hWt.len]; omega)]
      refine iteT ⟨fun σ' H' => ∃ (es : Met) (as : List Addr) (x5 x6 x7 x8 x9 : Option V), σ' = [some (.int (n : Int)), some (.ref sa), some (.ref d), some (.ref q0), some (.int ((k + 1 : Nat) : Int)), x5, x6, x7, x8, x9, none] ∧ Same H H' ∧ Walked n start es (k + 1) ∧ Wt H' d q0 as es, ?_, ?_⟩
      · rintro σ' H' ⟨es', as', y5, y6, y7, y8, y9, rfl, s', hW', hT'⟩
        exact ⟨64 - (k + 1), by omega, es', k + 1, as', y5, y6, y7, y8, y9, rfl, s', rfl, hW', hT'⟩
      -- one row
      have hka : k < as.length := by rw [hWt.len]; exact hk
      have ga := List.getElem?_eq_getElem hka
      obtain ⟨nq, ⟨row, c⟩, hx, hrow⟩ := hWt.row k _ ga
      generalize as[k] = r at ga nq hrow
      obtain ⟨hRr, hrl⟩ := hWk.rows hn0 (List.mem_of_getElem? hx)
      have hrl' : row.length = start.length := hrl
      refine ⟨_, rfl, _, rfl, q0, _, _, .ref r, rfl, rfl, SqL.of hWt.lst, atI_nat (at_map ga), ?_⟩
      refine ⟨_, rfl, _, 1, rfl, rfl, ?_⟩
      -- first
      refine ⟨_, rfl, r, _, rfl, .inl (SqL.of hrow), _, rfl, ?_, ?_, for_range (lo := 0) (n := (((row.map V.int).length : Nat) : Int).toNat)
        (fun f σ H' => ∃ (es : Met) (as : List Addr) (x6 x7 x8 x9 : Option V), σ = [some (.int (n : Int)), some (.ref sa), some (.ref d), some (.ref q0), some (.int ((k : Int) + 1)), some (.ref r), x6, x7, x8, x9, none] ∧ Same H H' ∧ Walked n start es k ∧ es[k]? = some (row, c) ∧ Wt H' d q0 as es ∧ H' r = some (.lst (row.map V.int)) ∧ AllF n es row c f)
        ⟨es, as, x6, x7, x8, x9, rfl, s6, hWk, hx, hWt, hrow, fun u hu h => by have := hu.1; omega⟩ ?_ ?_⟩
      · rw [List.length_map]; omega
      · rw [List.length_map]; omega
      · rintro f σ H7 hf ⟨es7, as7, x6, x7, x8, x9, rfl, s7, hW7, hx7, hWt7, hr7, hF7⟩
        have hf' : f < row.length := by rw [List.length_map] at hf; omega
        -- end
        have hlo : (0 : Int) + (f : Int) = (f : Int) := by omega
        rw [hlo]
        refine ⟨_, rfl, _, 1, rfl, rfl, _, rfl, r, _, rfl, .inl (SqL.of hr7), _, 1, rfl, rfl, (f : Int) + 1, ((row.map V.int).length : Int) + 1, rfl, ⟨by omega, by omega, by rw [List.length_map]; omega, by rw [List.length_map]; omega⟩, for_range (lo := (f : Int) + 1) (n := (((row.map V.int).length : Int) + 1 - ((f : Int) + 1)).toNat)
          (fun j σ H' => ∃ (es : Met) (as : List Addr) (x7 x8 x9 : Option V), σ = [some (.int (n : Int)), some (.ref sa), some (.ref d), some (.ref q0), some (.int ((k : Int) + 1)), some (.ref r), some (.int (f : Int)), x7, x8, x9, none] ∧ Same H H' ∧ Walked n start es k ∧ es[k]? = some (row, c) ∧ Wt H' d q0 as es ∧ H' r = some (.lst (row.map V.int)) ∧ AllF n es row c f ∧ AllE n es row c f (f + 1 + j))
          ⟨es7, as7, x7, x8, x9, rfl, s7, hW7, hx7, hWt7, hr7, hF7, fun u hu h1 h2 => by have := hu.2.1; omega⟩ ?_ ?_⟩
        · rintro j σ H8 hj ⟨es8, as8, x7, x8, x9, rfl, s8, hW8, hx8, hWt8, hr8, hF8, hE8⟩
          have hj' : f + 1 + j ≤ row.length := by rw [List.length_map] at hj; omega
          obtain ⟨e, he⟩ : ∃ e : Nat, e = f + 1 + j := ⟨_, rfl⟩
          rw [← he] at hE8 hj'
          rw [show (f : Int) + 1 + (j : Int) = (e : Int) by omega]
          -- step
          refine ⟨1, rfl, (by show 2 ≤ sizeLine; decide), fun L hL => ?_⟩
          have w9 : Same H8 (upd H8 L (.lst [.int 1, .int (-1)])) := same_new hL
          have e9 : (upd H8 L (.lst [.int 1, .int (-1)])) L = some (.lst (([1, -1] : List Int).map V.int)) := upd_same
          have hLH : H L = none := s8.free hL
          have nLd : L ≠ d := (ne_of_none hWt8.dict hL).symm
          have nLq : L ≠ q0 := (ne_of_none hWt8.lst hL).symm
          generalize upd H8 L (.lst [.int 1, .int (-1)]) = H9 at w9 e9 ⊢
          refine ⟨L, rfl, ⟨_, SqL.of e9⟩, for_list (K := K) (a := L) (xs := ([1, -1] : List Int).map V.int)
            (fun i σ H' => ∃ (es : Met) (as : List Addr) (x8 x9 : Option V), σ = [some (.int (n : Int)), some (.ref sa), some (.ref d), some (.ref q0), some (.int ((k : Int) + 1)), some (.ref r), some (.int (f : Int)), some (.int (e : Int)), x8, x9, none] ∧ Same H H' ∧ Walked n start es k ∧ es[k]? = some (row, c) ∧ Wt H' d q0 as es ∧ H' r = some (.lst (row.map V.int)) ∧ H' L = some (.lst (([1, -1] : List Int).map V.int)) ∧ AllF n es row c f ∧ AllE n es row c f e ∧
              ∀ s ∈ ([1, -1] : List Int).take i, Has es (behind n row [((f : Int), (e : Int), s)]) (c + 1))
            ⟨es8, as8, x8, x9, rfl, s8.trans w9, hW8, hx8, hWt8.same w9, w9 _ _ hr8, e9, hF8, hE8, fun s hs => nomatch hs⟩ (fun i σ H' _ h => by obtain ⟨_, _, _, _, _, _, _, _, _, _, h, _⟩ := h; exact SqL.of h) ?_ ?_⟩
          · rintro i y σ H10 hi ⟨es1, as1, x8, x9, rfl, s10, hW1, hx1, hWt1, hr1, hL1, hF1, hE1, hS1⟩
            obtain ⟨st, hst, rfl⟩ := map_at hi
            have hu : UnitOk row.length ((f : Int), (e : Int), st) := by
              refine ⟨by show (0 : Int) ≤ (f : Int); omega, by show (f : Int) < (e : Int); omega, by show (e : Int) ≤ (row.length : Int); omega, ?_⟩
              have := List.mem_of_getElem? hst
              simpa using this
            have hu' : UnitOk start.length ((f : Int), (e : Int), st) := by rw [← hrl']; exact hu
            have hsz := hW1.few hn2 hn4 hlen
            -- the row behind the step
            refine ⟨_, rfl, _, rfl, _, rfl, r, _, rfl, SqL.of hr1, fun p1 hp1 => ?_⟩
            rw [cut_nat, ← List.map_take]
            have v1 : Same H10 (upd H10 p1 (.lst ((row.take f).map V.int))) := same_new hp1
            have g1 : (upd H10 p1 (.lst ((row.take f).map V.int))) p1 = some (.lst ((row.take f).map V.int)) := upd_same
            generalize upd H10 p1 (.lst ((row.take f).map V.int)) = G1 at v1 g1 ⊢
            refine ⟨_, rfl, _, rfl, _, rfl, _, rfl, _, rfl, r, _, rfl, SqL.of (v1 _ _ hr1), fun p2 hp2 => ?_⟩
            rw [cut_mid _ (show f ≤ e by omega) (by rw [List.length_map]; exact hj'), ← List.map_drop, ← List.map_take]
            have v2 : Same G1 (upd G1 p2 (.lst (((row.drop f).take (e - f)).map V.int))) := same_new hp2
            have g2 : (upd G1 p2 (.lst (((row.drop f).take (e - f)).map V.int))) p2 = some (.lst (((row.drop f).take (e - f)).map V.int)) := upd_same
            generalize upd G1 p2 (.lst (((row.drop f).take (e - f)).map V.int)) = G2 at v2 g2 ⊢
            refine ⟨p2, rfl, ⟨_, SqL.of g2⟩, fun M hM => lc_list (K := K) (a := p2) (xs := ((row.drop f).take (e - f)).map V.int) (fun i H' => Same G2 H' ∧ H' M = some (.lst (((((row.drop f).take (e - f)).map fun x => (x + st) % (n : Int)).take i).map V.int))) ⟨same_new hM, upd_same⟩ (fun i H' _ h => SqL.of (h.1 _ _ g2)) ?_ ?_⟩
            · rintro t y H' ht ⟨sm, hMt⟩
              obtain ⟨z, hz, rfl⟩ := map_at ht
              have gz : (((row.drop f).take (e - f)).map fun x => (x + st) % (n : Int))[t]? = some ((z + st) % (n : Int)) := by rw [List.getElem?_map, hz]; rfl
              refine ⟨rfl, _, rfl, _, rfl, z, st, rfl, rfl, _, rfl, _, _, rfl, rfl, hn0, _, hMt, ?_, smut sm hM, ?_⟩
              · rw [List.length_map, List.length_take, List.length_map, List.length_take, List.length_drop]
                exact line_lt (by omega)
              · rw [upd_same, take_snoc gz, List.map_append]; rfl
            rintro G3 ⟨v3, g3⟩
            rw [List.length_map, List.take_of_length_le (by rw [List.length_map]; exact Nat.le_refl _)] at g3
            refine ⟨p1, M, _, _, rfl, rfl, v3 _ _ (v2 _ _ g1), g3, ?_, fun p3 hp3 => ?_⟩
            · rw [List.length_map, List.length_map, List.length_map, List.length_take, List.length_take, List.length_drop]
              exact line_of (by omega)
            rw [← List.map_append]
            have v4 : Same G3 (upd G3 p3 (.lst ((row.take f ++ ((row.drop f).take (e - f)).map fun x => (x + st) % (n : Int)).map V.int))) := same_new hp3
            have g4 : (upd G3 p3 (.lst ((row.take f ++ ((row.drop f).take (e - f)).map fun x => (x + st) % (n : Int)).map V.int))) p3 = some (.lst ((row.take f ++ ((row.drop f).take (e - f)).map fun x => (x + st) % (n : Int)).map V.int)) := upd_same
            generalize upd G3 p3 (.lst ((row.take f ++ ((row.drop f).take (e - f)).map fun x => (x + st) % (n : Int)).map V.int)) = G4 at v4 g4 ⊢
            have v14 := ((v1.trans v2).trans v3).trans v4
            refine ⟨_, rfl, _, rfl, _, rfl, r, _, rfl, SqL.of (v14 _ _ hr1), fun p4 hp4 => ?_⟩
            rw [cut_from, ← List.map_drop]
            have v5 : Same G4 (upd G4 p4 (.lst ((row.drop e).map V.int))) := same_new hp4
            have g5 : (upd G4 p4 (.lst ((row.drop e).map V.int))) p4 = some (.lst ((row.drop e).map V.int)) := upd_same
            generalize upd G4 p4 (.lst ((row.drop e).map V.int)) = G5 at v5 g5 ⊢
            refine ⟨p3, p4, _, _, rfl, rfl, v5 _ _ g4, g5, ?_, fun t ht => ?_⟩
            · rw [List.length_map, List.length_append, List.length_map, List.length_map, List.length_take, List.length_take, List.length_drop, List.length_drop]
              exact line_of (by omega)
            rw [← List.map_append, stretch hRr (show f ≤ e by omega) hj']
            have v6 : Same G5 (upd G5 t (.lst ((behind n row [((f : Int), (e : Int), st)]).map V.int))) := same_new ht
            have g6 : (upd G5 t (.lst ((behind n row [((f : Int), (e : Int), st)]).map V.int))) t = some (.lst ((behind n row [((f : Int), (e : Int), st)]).map V.int)) := upd_same
            have v15 := v14.trans v5
            have ntq : t ≠ q0 := (ne_of_none (v15 _ _ hWt1.lst) ht).symm
            generalize upd G5 t (.lst ((behind n row [((f : Int), (e : Int), st)]).map V.int)) = G6 at v6 g6 ⊢
            have v16 := v15.trans v6
            -- is it met?
            refine ⟨_, rfl, t, _, rfl, .inl ⟨SqL.of g6, fun T1 hT1 => ?_⟩⟩
            have v7 : Same G6 (upd G6 T1 (.tup ((behind n row [((f : Int), (e : Int), st)]).map V.int))) := same_new hT1
            have g7 : (upd G6 T1 (.tup ((behind n row [((f : Int), (e : Int), st)]).map V.int))) T1 = some (.tup ((keyOf (behind n row [((f : Int), (e : Int), st)])).map kV)) := by rw [upd_same, keyOf_V]
            generalize upd G6 T1 (.tup ((behind n row [((f : Int), (e : Int), st)]).map V.int)) = G7 at v7 g7 ⊢
            have v17 := v16.trans v7
            have hWt7' := hWt1.same v17
            refine ⟨_, rfl, d, _, rfl, DGet.t hWt7'.dict g7, _, rfl, ?_⟩
            cases hv : valV (metK es1) (keyOf (behind n row [((f : Int), (e : Int), st)])) with
            | some v =>
              obtain ⟨c', _, hm⟩ := met_some hv
              have hc' : c' ≤ c + 1 := hW1.near (row, c) _ hx1 hm
              refine iteF ⟨es1, as1, _, _, rfl, s10.trans v17, hW1, hx1, hWt7', v17 _ _ hr1, v17 _ _ hL1, hF1, hE1, fun s hs => ?_⟩
              rw [take_snoc hst] at hs
              rcases List.mem_append.mp hs with h | h
              · exact hS1 s h
              · rw [List.mem_singleton.mp h]
                exact ⟨c', hm, hc'⟩
            | none =>
              have hnew := met_none hv
              -- met[tuple(here)] = met[tuple(row)] + 1
              refine iteT ⟨_, rfl, _, rfl, r, _, rfl, .inl ⟨SqL.of (v17 _ _ hr1), fun T2 hT2 => ?_⟩⟩
              have v8 : Same G7 (upd G7 T2 (.tup (row.map V.int))) := same_new hT2
              have g8 : (upd G7 T2 (.tup (row.map V.int))) T2 = some (.tup ((keyOf row).map kV)) := by rw [upd_same, keyOf_V]
              generalize upd G7 T2 (.tup (row.map V.int)) = G8 at v8 g8 ⊢
              have hWt8' := hWt7'.same v8
              have hval : valV (metK es1) (keyOf row) = some (.int c) := met_val hW1.nd (List.mem_of_getElem? hx1)
              refine ⟨d, .int c, rfl, ?_, c, 1, rfl, rfl, _, rfl, _, rfl, t, _, rfl, .inl ⟨SqL.of (v8 _ _ (v7 _ _ g6)), fun T3 hT3 => ?_⟩⟩
              · rw [← hval]
                exact DGet.t hWt8'.dict g8
              have v9 : Same G8 (upd G8 T3 (.tup ((behind n row [((f : Int), (e : Int), st)]).map V.int))) := same_new hT3
              have g9 : (upd G8 T3 (.tup ((behind n row [((f : Int), (e : Int), st)]).map V.int))) T3 = some (.tup ((keyOf (behind n row [((f : Int), (e : Int), st)])).map kV)) := by rw [upd_same, keyOf_V]
              generalize upd G8 T3 (.tup ((behind n row [((f : Int), (e : Int), st)]).map V.int)) = G9 at v9 g9 ⊢
              have hWt9 := hWt8'.same v9
              have v19 := (v17.trans v8).trans v9
              refine ⟨d, _, rfl, DPut.t hWt9.dict g9 ?_, ?_⟩
              · unfold metK
                rw [List.length_map]
                exact line_lt (by omega)
              rw [putK_new _ hv]
              have ndq : d ≠ q0 := ne_of hWt9.dict hWt9.lst (by intro z; cases z)
              refine ⟨_, rfl, .inl ⟨rfl, _, SqL.of (by rw [upd_ne ndq.symm]; exact hWt9.lst)⟩, _, rfl, q0, _, _, rfl, rfl, by rw [upd_ne ndq.symm]; exact hWt9.lst, ?_, ?_⟩
              · rw [List.length_map, hWt9.len]
                exact line_lt (by omega)
              have gt9 := v9 _ _ (v8 _ _ (v7 _ _ g6))
              have keep : ∀ {a : Addr} {l : List V}, a ≠ q0 → G9 a = some (.lst l) → (upd (upd G9 d (.dT (metK es1 ++ [(keyOf (behind n row [((f : Int), (e : Int), st)]), .int (c + 1))]))) q0 (.lst (as1.map V.ref ++ [.ref t]))) a = some (.lst l) := fun {a l} na ea => by
                rw [upd_ne na, upd_ne (ne_of ea hWt9.dict (by intro z; cases z))]; exact ea
              refine ⟨es1 ++ [(behind n row [((f : Int), (e : Int), st)], c + 1)], as1 ++ [t], _, _, rfl, smut (smut (s10.trans v19) hd) hq00, hW1.add hx1 hu' hnew, ?_, hWt9.add gt9 ntq, keep nq (v19 _ _ hr1), keep nLq (v19 _ _ hL1), fun u a b => (hF1 u a b).more, fun u a b c => (hE1 u a b c).more, fun s hs => ?_⟩
              · rw [List.getElem?_append_left (List.getElem?_eq_some_iff.mp hx1).1]; exact hx1
              · rw [take_snoc hst] at hs
                rcases List.mem_append.mp hs with h | h
                · exact (hS1 s h).more
                · rw [List.mem_singleton.mp h]
                  exact ⟨c + 1, List.mem_append_right _ List.mem_cons_self, Int.le_refl _⟩
          · rintro σ H10 ⟨es1, as1, x8, x9, rfl, s10, hW1, hx1, hWt1, hr1, hL1, hF1, hE1, hS1⟩
            refine ⟨es1, as1, _, _, _, rfl, s10, hW1, hx1, hWt1, hr1, hF1, fun u hu h1 h2 => ?_⟩
            by_cases he2 : u.2.1 < (e : Int)
            · exact hE1 u hu h1 he2
            · obtain ⟨u1, u2, u3⟩ := u
              have a1 : u1 = (f : Int) := h1
              have h2' : u2 < ((f + 1 + (j + 1) : Nat) : Int) := h2
              have he2' : ¬ u2 < (e : Int) := he2
              have a2 : u2 = (e : Int) := by omega
              subst a1 a2
              refine hS1 u3 ?_
              have a3 : u3 = 1 ∨ u3 = -1 := hu.2.2.2
              show u3 ∈ ([1, -1] : List Int)
              simpa using a3
        · rintro σ H8 ⟨es8, as8, x7, x8, x9, rfl, s8, hW8, hx8, hWt8, hr8, hF8, hE8⟩
          refine ⟨es8, as8, _, _, _, _, rfl, s8, hW8, hx8, hWt8, hr8, fun u hu h1 => ?_⟩
          by_cases h2 : u.1 < (f : Int)
          · exact hF8 u hu h2
          · refine hE8 u hu (by omega) ?_
            have := hu.2.2.1
            rw [List.length_map]
            omega
      · rintro σ H7 ⟨es7, as7, x6, x7, x8, x9, rfl, s7, hW7, hx7, hWt7, hr7, hF7⟩
        rw [List.length_map] at hF7
        refine ⟨es7, as7, _, _, _, _, _, rfl, s7, hW7.next hx7 ?_, hWt7⟩
        rw [← hrl']
        exact hF7
    · rw [decide_eq_false (show ¬ (k : Int) < ((as.map V.ref).length : Int) by rw [List.length_map, hWt.len]; omega)]
      exact iteF ⟨_, rfl, q H6 d es k s6 hWt.dict hWk (by omega)⟩
end
end DR
namespace DR
open PySem PySem.Spec PyProof.Rows L2
def spLaw (Tb : List Addr) (K : PySem.W.Frag) : Sp := fun vs H Q _ => ∃ (a : Addr) (ns : List Int), vs = [.ref a] ∧ SqL K H a (ns.map V.int) ∧ ns.length ≤ 63 ∧ (∀ z ∈ ns, Builtin.Int.intBits z ≤ 1048576) ∧ Tabs Tb H ∧ ∀ H', Q (.bl true) H'
theorem cube_range {n : Nat} (h2 : 2 ≤ n) (h4 : n ≤ 4) : ∃ t : Nat, RgC 0 ((n : Int) ^ (3 : Int).toNat) 3 t := by
  rcases (show n = 2 ∨ n = 3 ∨ n = 4 by omega) with rfl | rfl | rfl
  · exact ⟨3, by decide, by decide, by decide +kernel, by decide +kernel⟩
  · exact ⟨9, by decide, by decide, by decide +kernel, by decide +kernel⟩
  · exact ⟨22, by decide, by decide, by decide +kernel, by decide +kernel⟩
theorem one_range : RgC 0 1 3 1 := ⟨by decide, by decide, by decide +kernel, by decide +kernel⟩
theorem far_two {v : Int} (h : Fewest 10 (raw [0, 0] [9, 1]) v) : v = 2 :=
  h.uniq (fewest_of (m := 10) (k := 5) (d := [-1, 2, -1]) (by decide) (by decide) (by decide) ⟨by decide, by decide⟩ (by decide) (by decide)).1
theorem ite_both {c : Bool} {A B : Prop} (h : A ∧ B) : if c = true then A else B := by
  cases c with
  | true => exact h.1
  | false => exact h.2
section
variable {P : Program} {w : World} {K : PySem.W.Frag} {mg : Str → Option Value} {base : Heap} {Tb : List Addr} {C : Addr}
abbrev NLaw : List Str := ["_law_script", "_law_size_here", "_law_one", "_law_other", "_law_third", "_law_handed", "_law_far", "_law_by", "_law_mine", "_law_theirs", "_law_start", "_law_few", "_law_met", "_law_at", "_law_here", "_law_figure"]
theorem scLaw : FnScope NLaw ["_law_script"] (defScope sLaw) := ⟨rfl, rfl, rfl, by decide +kernel, rfl, by decide +kernel, by decide +kernel⟩
theorem ok_law (D : Def K mg "law" sLaw ["_law_script"]) (B : Blt mg) (GLS : Callee P w K mg base 10 "_law_size" ["_law_script"] (spLSize K)) (GLR : Callee P w K mg base 10 "_law_row" ["_law_script", "_law_size_here", "_law_by"] (spLRow K))
    (GW : Callee P w K mg base 10 "_law_walked" ["_law_size_here", "_law_start"] (spLWalked K)) (GA : Callee P w K mg base 10 "apart" ["size", "one", "other"] (spApart Tb K)) : Callee P w K mg base 11 "law" ["_law_script"] (spLaw Tb K) := by
  refine D.ok scLaw (fun vs H Q E h => ?_) (fun f cdv A outer s H vs Q E hr h => ?_)
  · obtain ⟨a, ns, rfl, _⟩ := h
    rfl
  · obtain ⟨a, ns, rfl, hS, hlen, hbits, hTb, q⟩ := h
    refine ⟨_, pss_cons (ps_set (i := 0) scLaw.nd rfl (.inl rfl) (pe_slice sl_list (pv 0) po_none (po_some pe_int)))
      (pss_cons (ps_set (i := 1) scLaw.nd rfl (.inr rfl) (pe_c GLS hr (by rfl) (pa_cons (pv 0) pa_nil)))
      (pss_cons (ps_set (i := 2) scLaw.nd rfl (.inl rfl) (pe_c GLR hr (by rfl) (pa_cons (pv 0) (pa_cons (pv 1) (pa_cons pe_int pa_nil)))))
      (pss_cons (ps_set (i := 3) scLaw.nd rfl (.inl rfl) (pe_c GLR hr (by rfl) (pa_cons (pv 0) (pa_cons (pv 1) (pa_cons pe_int pa_nil)))))
      (pss_cons (ps_set (i := 4) scLaw.nd rfl (.inl rfl) (pe_c GLR hr (by rfl) (pa_cons (pv 0) (pa_cons (pv 1) (pa_cons pe_int pa_nil)))))
      (pss_cons (ps_set (i := 5) scLaw.nd rfl (.inl rfl) (pe_lst (pa_cons (pe_callTy call_list_of (by rfl) B.list PyProof.Rows.boot_list (pa_cons (pv 2) pa_nil)) (pa_cons (pe_callTy call_list_of (by rfl) B.list PyProof.Rows.boot_list (pa_cons (pv 3) pa_nil)) pa_nil))))
      (pss_cons (ps_set (i := 6) scLaw.nd rfl (.inl rfl) (pe_c GA hr (by rfl) (pa_cons (pv 1) (pa_cons (pe_ix ix_list (pv 5) pe_int (fun _ _ => rfl)) (pa_cons (pe_ix ix_list (pv 5) pe_int (fun _ _ => rfl)) pa_nil)))))
      (pss_cons (ps_if (PW.pt (pw_or (pt_val (pe_callB call_isi (by rfl) B.isi boot_isinstance (pa_cons (pv 6) (pa_cons (pe_bltn (v := .ty "bool") (by rfl) B.bool PyProof.Rows.boot_bool rfl) pa_nil))))
          (pw_or (pt_not (pt_val (pe_callB call_isi (by rfl) B.isi boot_isinstance (pa_cons (pv 6) (pa_cons (pe_bltn (v := .ty "int") (by rfl) B.int PyProof.Rows.boot_int rfl) pa_nil)))))
          (pw_or1 (pt_cmpR op_ne (pe_cmpR op_eq (pv 6) pe_int (nomark _)) (pe_cmpR (op_eqD hr.units) (pv 2) (pv 3) (nomark _)) (nomark _)))))) (pss_one (ps_ret pe_bl)) pss_nil)
      (pss_cons (ps_if (pt_cmpR (op_neD hr.units) (pv 5) (pe_lst (pa_cons (pv 2) (pa_cons (pv 3) pa_nil))) (nomark _)) (pss_one (ps_ret pe_bl)) pss_nil)
      (pss_cons (ps_if (PW.pt (pw_or (pt_cmpR op_lt (pv 6) pe_int (nomark _)) (pw_or (pt_cmpR op_ne (pv 6) (pe_c GA hr (by rfl) (pa_cons (pv 1) (pa_cons (pv 3) (pa_cons (pv 2) pa_nil)))) (nomark _))
          (pw_or1 (pt_cmpR op_ne (pv 6) (pe_c GA hr (by rfl) (pa_cons (pv 1) (pa_cons (pe_revL (pv 2)) (pa_cons (pe_revL (pv 3)) pa_nil)))) (nomark _)))))) (pss_one (ps_ret pe_bl)) pss_nil)
      (pss_cons (ps_set (i := 7) scLaw.nd rfl (.inr rfl) (pe_op op_mod (pe_op op_fdiv (pe_callB (cr_sum rfl) (by rfl) B.sum PyProof.Rows.boot_sum (pa_cons (pv 0) pa_nil)) pe_int) (pv 1)))
      (pss_cons (ps_setLc (i := 8) (own := [("_law_figure", 15)]) (g := gName 15) (tt := tYes) rfl scLaw.nd rfl rfl (sw_true rfl rfl rfl (by decide +kernel)) (pi_list (pv 2)) (blkOk_by (N := NLaw) (sc := defScope sLaw) (by decide +kernel)) (fun _ _ _ _ _ => pg_name (i := 15) scLaw.nd rfl (.inl rfl)) (fun _ _ _ _ _ => pts_nil)
        (fun _ _ _ _ _ => pe_op op_mod (pe_op op_add (pv 15) (pv 7)) (pv 1)))
      (pss_cons (ps_setLc (i := 9) (own := [("_law_figure", 15)]) (g := gName 15) (tt := tYes) rfl scLaw.nd rfl rfl (sw_true rfl rfl rfl (by decide +kernel)) (pi_list (pv 3)) (blkOk_by (N := NLaw) (sc := defScope sLaw) (by decide +kernel)) (fun _ _ _ _ _ => pg_name (i := 15) scLaw.nd rfl (.inl rfl)) (fun _ _ _ _ _ => pts_nil)
        (fun _ _ _ _ _ => pe_op op_mod (pe_op op_add (pv 15) (pv 7)) (pv 1)))
      (pss_cons (ps_if (pt_cmpR op_ne (pv 6) (pe_c GA hr (by rfl) (pa_cons (pv 1) (pa_cons (pv 8) (pa_cons (pv 9) pa_nil)))) (nomark _)) (pss_one (ps_ret pe_bl)) pss_nil)
      (pss_cons (ps_if (pt_cmpR op_gt (pv 6) (pe_op op_add (pe_c GA hr (by rfl) (pa_cons (pv 1) (pa_cons (pv 2) (pa_cons (pv 4) pa_nil)))) (pe_c GA hr (by rfl) (pa_cons (pv 1) (pa_cons (pv 4) (pa_cons (pv 3) pa_nil))))) (nomark _)) (pss_one (ps_ret pe_bl)) pss_nil)
      (pss_cons (ps_if (pt_cmpR op_lt (pv 6) (pe_c GA hr (by rfl) (pa_cons (pv 1) (pa_cons (pe_slice sl_list (pv 2) (po_some pe_int) po_none) (pa_cons (pe_slice sl_list (pv 3) (po_some pe_int) po_none) pa_nil)))) (nomark _)) (pss_one (ps_ret pe_bl)) pss_nil)
      (pss_cons (ps_setLc (i := 10) (own := [("_law_figure", 15)]) (g := gName 15) (tt := tYes) rfl scLaw.nd rfl rfl (sw_true rfl rfl rfl (by decide +kernel)) (pi_list (pe_slice sl_list (pv 2) po_none (po_some pe_int))) (blkOk_by (N := NLaw) (sc := defScope sLaw) (by decide +kernel)) (fun _ _ _ _ _ => pg_name (i := 15) scLaw.nd rfl (.inl rfl)) (fun _ _ _ _ _ => pts_nil)
        (fun _ _ _ _ _ => pe_op op_mod (pv 15) pe_int))
      (pss_cons (ps_set (i := 11) scLaw.nd rfl (.inr rfl) (pe_op op_add pe_int (pe_op op_mod (pe_callB (cr_sum rfl) (by rfl) B.sum PyProof.Rows.boot_sum (pa_cons (pv 0) pa_nil)) pe_int)))
      (pss_cons (ps_setLc (i := 10) (own := [("_law_figure", 15)]) (g := gName 15) (tt := tYes) rfl scLaw.nd rfl rfl (sw_true rfl rfl rfl (by decide +kernel)) (pi_list (pv 10)) (blkOk_by (N := NLaw) (sc := defScope sLaw) (by decide +kernel)) (fun _ _ _ _ _ => pg_name (i := 15) scLaw.nd rfl (.inl rfl)) (fun _ _ _ _ _ => pts_nil)
        (fun _ _ _ _ _ => pe_op op_mod (pv 15) (pv 11)))
      (pss_cons (ps_set (i := 12) scLaw.nd rfl (.inl rfl) (pe_c GW hr (by rfl) (pa_cons (pv 11) (pa_cons (pv 10) pa_nil))))
      (pss_cons (ps_for PassesOwn.never rfl (pi_range3 rfl B.range (pa_cons pe_int (pa_cons (pe_ifExp (pt_cmpR op_eq (pe_callB call_len_seq (by rfl) B.len PySem.boot_len (pa_cons (pv 10) pa_nil)) pe_int (nomark _)) (pe_op op_pow (pv 11) pe_int) pe_int) (pa_cons pe_int pa_nil)))) (pg_name (i := 13) scLaw.nd rfl (.inl rfl))
        (pss_cons (ps_set (i := 14) scLaw.nd rfl (.inl rfl) (pe_slice sl_list (pe_lst (pa_cons (pe_op op_mod (pv 13) (pv 11)) (pa_cons (pe_op op_mod (pe_op op_fdiv (pv 13) (pv 11)) (pv 11)) (pa_cons (pe_op op_mod (pe_op op_fdiv (pe_op op_fdiv (pv 13) (pv 11)) (pv 11)) (pv 11)) pa_nil)))) po_none (po_some (pe_callB call_len_seq (by rfl) B.len PySem.boot_len (pa_cons (pv 10) pa_nil)))))
        (pss_one (ps_if (pt_cmpR op_ne (pe_c GA hr (by rfl) (pa_cons (pv 11) (pa_cons (pv 10) (pa_cons (pv 14) pa_nil)))) (pe_dget (hu_of hr) (pv 12) (pe_callTy call_tuple_of (by rfl) B.tuple PyProof.Rows.boot_tuple (pa_cons (pv 14) pa_nil)) (fun _ _ => rfl)) (nomark _)) (pss_one (ps_ret pe_bl)) pss_nil))))
      (pss_one (ps_ret (pe_and (pe_cmpR op_eq (pe_c GA hr (by rfl) (pa_cons pe_int (pa_cons (pe_lst (pa_cons pe_int (pa_cons pe_int pa_nil))) (pa_cons (pe_lst (pa_cons pe_int (pa_cons pe_int pa_nil))) pa_nil)))) pe_int (nomark _))
        (pe_one (pe_cmpR op_eq (pe_c GA hr (by rfl) (pa_cons pe_int (pa_cons (pe_lst pa_nil) (pa_cons (pe_lst pa_nil) pa_nil)))) pe_int (nomark _)))))))))))))))))))))))))), ?_⟩
    -- _law_script[:63]
    refine ⟨_, rfl, 63, rfl, a, _, rfl, hS, fun a0 ha0 => ?_⟩
    have e0 : cutV (ns.map V.int) none (some (63 : Int)) = ns.map V.int := by
      rw [show (63 : Int) = ((63 : Nat) : Int) from rfl, cut_nat, List.take_of_length_le (by rw [List.length_map]; exact hlen)]
    rw [e0]
    have s00 := same_new (o := .lst (ns.map V.int)) ha0
    refine ⟨_, rfl, a0, ns, rfl, SqL.of upd_same, fun m H1 hm2 hmx s1 => ?_⟩
    have ha1 := s1 _ _ upd_same
    refine ⟨_, rfl, _, rfl, a0, ns, m, 0, rfl, SqL.of ha1, hm2, hmx, by decide, by decide, hlen, fun xs H2 b s2 _ hb2 hRx hlx => ?_⟩
    have ha2 := s2 _ _ ha1
    refine ⟨_, rfl, _, rfl, a0, ns, m, 1, rfl, SqL.of ha2, hm2, hmx, by decide, by decide, hlen, fun ys H3 c s3 _ hc3 hRy hly => ?_⟩
    have ha3 := s3 _ _ ha2
    have hb3 := s3 _ _ hb2
    refine ⟨_, rfl, _, rfl, a0, ns, m, 2, rfl, SqL.of ha3, hm2, hmx, by decide, by decide, hlen, fun zs H4 d s4 _ hd4 hRz hlz => ?_⟩
    have ha4 := s4 _ _ ha3
    have hb4 := s4 _ _ hb3
    have hc4 := s4 _ _ hc3
    have hl99 := rowLen_le hlen
    have hmp : 0 < m := by omega
    have hbig : m < 2 ^ 200 := Int.lt_trans hmx (by decide +kernel)
    -- _law_handed
    refine ⟨_, rfl, b, _, rfl, .inl (SqL.of hb4), fun r1 hr1 => ?_⟩
    have w5 : Same H4 (upd H4 r1 (.lst (xs.map V.int))) := same_new hr1
    have e5 : (upd H4 r1 (.lst (xs.map V.int))) r1 = some (.lst (xs.map V.int)) := upd_same
    generalize upd H4 r1 (.lst (xs.map V.int)) = H5 at w5 e5 ⊢
    refine ⟨_, rfl, c, _, rfl, .inl (SqL.of (w5 _ _ hc4)), fun r2 hr2 => ⟨(by show 2 ≤ sizeLine; decide), fun hh hh0 => ?_⟩⟩
    have w6 : Same H5 (upd H5 r2 (.lst (ys.map V.int))) := same_new hr2
    have e6 : (upd H5 r2 (.lst (ys.map V.int))) r2 = some (.lst (ys.map V.int)) := upd_same
    generalize upd H5 r2 (.lst (ys.map V.int)) = H6 at w6 e6 hh0 ⊢
    have w7 : Same H6 (upd H6 hh (.lst [.ref r1, .ref r2])) := same_new hh0
    have e7 : (upd H6 hh (.lst [.ref r1, .ref r2])) hh = some (.lst [.ref r1, .ref r2]) := upd_same
    generalize upd H6 hh (.lst [.ref r1, .ref r2]) = H7 at w7 e7 ⊢
    have s47 := (w5.trans w6).trans w7
    have f1 := w7 _ _ (w6 _ _ e5)
    have f2 := w7 _ _ e6
    have ha7 := s47 _ _ ha4
    have hb7 := s47 _ _ hb4
    have hc7 := s47 _ _ hc4
    have hd7 := s47 _ _ hd4
    have hTb7 : Tabs Tb H7 := hTb.same ((((s00.trans s1).trans s2).trans s3).trans (s4.trans s47))
    -- _law_far
    refine ⟨_, rfl, _, rfl, hh, _, 0, _, rfl, rfl, SqL.of e7, atI_nat (j := 0) rfl, _, rfl, hh, _, 1, _, rfl, rfl, SqL.of e7, atI_nat (j := 1) rfl, m, r1, r2, xs, ys, rfl, ⟨SqL.of f1, SqL.of f2, by omega, by omega, hm2, hbig, hRx, hRy, hTb7⟩, fun H8 v s8 hv => ?_⟩
    have hF := far_few hmp hv
    have hv0 := hF.nonneg
    have hxy : xs.length = ys.length := by omega
    have hyz : ys.length = zs.length := by omega
    have hxz : xs.length = zs.length := by omega
    -- the first test
    refine ⟨_, rfl, _, _, _, _, false, rfl, .ty _, .base (.int v), kit_ty (by decide +kernel), false, rfl, iteF ?_⟩
    refine ⟨_, rfl, _, _, _, _, true, rfl, .ty _, .base (.int v), kit_ty (by decide +kernel), true, rfl, iteF ?_⟩
    refine ⟨_, rfl, rfl, _, rfl, _, rfl, dI xs, dI ys, dp_lst (SqL.of (s8 _ _ hb7)), dp_lst (SqL.of (s8 _ _ hc7)), sh_dI _, sh_dI _, rfl, _, rfl, ?_⟩
    have ez : (decide (V.int v = V.int 0)) = PyData.eqv (dI xs) (dI ys) := by
      rw [eqv_dI]
      refine decide_eq_decide.mpr ⟨fun e => ?_, fun e => ?_⟩
      · have e1 : v = 0 := V.int.inj e
        subst e1
        exact few_zero hmp hRx hRy hxy hF
      · subst e
        exact congrArg V.int (hF.uniq (few_self _))
    rw [decide_eq_true (congrArg V.bl ez)]
    refine iteF ?_
    -- handed stays
    refine ⟨_, rfl, _, rfl, _, rfl, (by show 2 ≤ sizeLine; decide), fun l hl0 => ?_⟩
    have w9 : Same H8 (upd H8 l (.lst [.ref b, .ref c])) := same_new hl0
    have e9 : (upd H8 l (.lst [.ref b, .ref c])) l = some (.lst [.ref b, .ref c]) := upd_same
    generalize upd H8 l (.lst [.ref b, .ref c]) = H9 at w9 e9 ⊢
    have s79 := s8.trans w9
    have hlay : PyData.canLay0 (.list [dI xs, dI ys]) = true := by simp only [PyData.canLay0, PyData.canLayAll0, lay_dI, Bool.and_self]
    have hsh : SeqAt.shaped (.list [dI xs, dI ys]) = true := by
      unfold SeqAt.shaped
      rw [hlay, decide_eq_true]
      · rfl
      · simp only [PyData.depth, PyData.depthAll, dep_dI]; omega
    refine ⟨.list [dI xs, dI ys], .list [dI xs, dI ys], .lst (SqL.of (s79 _ _ e7)) (.cons (dp_lst (SqL.of (s79 _ _ f1))) (.cons (dp_lst (SqL.of (s79 _ _ f2))) .nil)), .lst (SqL.of e9) (.cons (dp_lst (SqL.of (s79 _ _ hb7))) (.cons (dp_lst (SqL.of (s79 _ _ hc7))) .nil)), hsh, hsh, _, rfl, ?_⟩
    rw [SeqAt.eqv_refl _ hlay]
    refine iteF ?_
    have ha9 := s79 _ _ ha7
    have hb9 := s79 _ _ hb7
    have hc9 := s79 _ _ hc7
    have hd9 := s79 _ _ hd7
    have hTb9 : Tabs Tb H9 := hTb7.same s79
    -- both ways, backwards
    refine ⟨_, rfl, v, 0, rfl, rfl, _, rfl, ?_⟩
    rw [decide_eq_false (show ¬ v < 0 by omega)]
    refine iteF ⟨_, rfl, _, rfl, _, rfl, _, rfl, m, c, b, ys, xs, rfl, ⟨SqL.of hc9, SqL.of hb9, by omega, by omega, hm2, hbig, hRy, hRx, hTb9⟩, fun H10 v2 s10 hv2 => ⟨rfl, _, rfl, ?_⟩⟩
    rw [decide_eq_true (congrArg V.int ((few_swap hF).uniq (far_few hmp hv2)))]
    refine iteF ⟨_, rfl, _, rfl, _, rfl, b, _, rfl, SqL.of (s10 _ _ hb9), fun q1 hq1 => ?_⟩
    rw [← List.map_reverse]
    have w11 : Same H10 (upd H10 q1 (.lst (xs.reverse.map V.int))) := same_new hq1
    have e11 : (upd H10 q1 (.lst (xs.reverse.map V.int))) q1 = some (.lst (xs.reverse.map V.int)) := upd_same
    generalize upd H10 q1 (.lst (xs.reverse.map V.int)) = H11 at w11 e11 ⊢
    refine ⟨_, rfl, c, _, rfl, SqL.of (w11 _ _ (s10 _ _ hc9)), fun q2 hq2 => ?_⟩
    rw [← List.map_reverse]
    have w12 : Same H11 (upd H11 q2 (.lst (ys.reverse.map V.int))) := same_new hq2
    have e12 : (upd H11 q2 (.lst (ys.reverse.map V.int))) q2 = some (.lst (ys.reverse.map V.int)) := upd_same
    generalize upd H11 q2 (.lst (ys.reverse.map V.int)) = H12 at w12 e12 ⊢
    refine ⟨m, q1, q2, _, _, rfl, ⟨SqL.of (w12 _ _ e11), SqL.of e12, by rw [List.length_reverse, List.length_reverse]; omega, by rw [List.length_reverse]; omega, hm2, hbig, hRx.reverse, hRy.reverse, hTb9.same ((s10.trans w11).trans w12)⟩, fun H13 v3 s13 hv3 => ⟨rfl, _, rfl, ?_⟩⟩
    rw [decide_eq_true (congrArg V.int ((few_reverse hxy hF).uniq (far_few hmp hv3)))]
    refine iteF ?_
    have s913 := ((s10.trans w11).trans w12).trans s13
    have ha13 := s913 _ _ ha9
    have hb13 := s913 _ _ hb9
    have hc13 := s913 _ _ hc9
    have hd13 := s913 _ _ hd9
    have hTb13 : Tabs Tb H13 := hTb9.same s913
    -- both turned by a number
    refine ⟨_, rfl, a0, ns, rfl, SqL.of ha13, _, 3, rfl, rfl, ⟨by decide, by decide⟩, _, rfl, _, m, rfl, rfl, hmp, ?_⟩
    show gName 7 (V.int (ns.sum / 3 % m)) _ _ _
    generalize ns.sum / 3 % m = by'
    refine ⟨_, rfl, b, rfl, ⟨_, SqL.of hb13⟩, fun L1 hL1 => lc_list (K := K) (a := b) (xs := xs.map V.int) (fun i H' => Same H13 H' ∧ H' L1 = some (.lst (((xs.map fun y => (y + by') % m).take i).map V.int))) ⟨same_new hL1, upd_same⟩ (fun i H' _ h => SqL.of (h.1 _ _ hb13)) ?_ ?_⟩
    · rintro j u H' hj ⟨sm, hLj⟩
      obtain ⟨z, hz, rfl⟩ := map_at hj
      have hj99 := at_lt hz
      have gz : (xs.map fun y => (y + by') % m)[j]? = some ((z + by') % m) := by rw [List.getElem?_map, hz]; rfl
      refine ⟨rfl, _, rfl, _, rfl, z, by', rfl, rfl, _, rfl, _, m, rfl, rfl, hmp, _, hLj, ?_, smut sm hL1, ?_⟩
      · rw [List.length_map, List.length_take]
        exact line_lt (by omega)
      · rw [upd_same, take_snoc gz, List.map_append]; rfl
    rintro H14 ⟨s14, hL14⟩
    rw [List.length_map, List.take_of_length_le (by rw [List.length_map]; exact Nat.le_refl _)] at hL14
    have hc14 := s14 _ _ hc13
    refine ⟨_, rfl, c, rfl, ⟨_, SqL.of hc14⟩, fun L2 hL2 => lc_list (K := K) (a := c) (xs := ys.map V.int) (fun i H' => Same H14 H' ∧ H' L2 = some (.lst (((ys.map fun y => (y + by') % m).take i).map V.int))) ⟨same_new hL2, upd_same⟩ (fun i H' _ h => SqL.of (h.1 _ _ hc14)) ?_ ?_⟩
    · rintro j u H' hj ⟨sm, hLj⟩
      obtain ⟨z, hz, rfl⟩ := map_at hj
      have hj99 := at_lt hz
      have gz : (ys.map fun y => (y + by') % m)[j]? = some ((z + by') % m) := by rw [List.getElem?_map, hz]; rfl
      refine ⟨rfl, _, rfl, _, rfl, z, by', rfl, rfl, _, rfl, _, m, rfl, rfl, hmp, _, hLj, ?_, smut sm hL2, ?_⟩
      · rw [List.length_map, List.length_take]
        exact line_lt (by omega)
      · rw [upd_same, take_snoc gz, List.map_append]; rfl
    rintro H15 ⟨s15, hL15⟩
    rw [List.length_map, List.take_of_length_le (by rw [List.length_map]; exact Nat.le_refl _)] at hL15
    have rok : ∀ zs : List Int, RowOk m (zs.map fun y => (y + by') % m) := fun zs z hz => by
      obtain ⟨y, _, e⟩ := List.mem_map.mp hz
      rw [← e]
      exact ⟨Int.emod_nonneg _ (by omega), Int.emod_lt_of_pos _ hmp⟩
    refine ⟨_, rfl, _, rfl, _, rfl, _, rfl, m, L1, L2, _, _, rfl, ⟨SqL.of (s15 _ _ hL14), SqL.of hL15, by rw [List.length_map, List.length_map]; omega, by rw [List.length_map]; omega, hm2, hbig, rok _, rok _, hTb13.same (s14.trans s15)⟩, fun H16 v4 s16 hv4 => ⟨rfl, _, rfl, ?_⟩⟩
    rw [decide_eq_true (congrArg V.int ((few_shift (k := by') hF).uniq (far_few hmp hv4)))]
    refine iteF ?_
    have s1316 := (s14.trans s15).trans s16
    have ha16 := s1316 _ _ ha13
    have hb16 := s1316 _ _ hb13
    have hc16 := s1316 _ _ hc13
    have hd16 := s1316 _ _ hd13
    have hTb16 : Tabs Tb H16 := hTb13.same s1316
    -- by a third
    refine ⟨_, rfl, _, rfl, _, rfl, _, rfl, m, b, d, xs, zs, rfl, ⟨SqL.of hb16, SqL.of hd16, hxz, by omega, hm2, hbig, hRx, hRz, hTb16⟩, fun H17 v5 s17 hv5 => ?_⟩
    refine ⟨_, rfl, _, rfl, _, rfl, m, d, c, zs, ys, rfl, ⟨SqL.of (s17 _ _ hd16), SqL.of (s17 _ _ hc16), hyz.symm, by omega, hm2, hbig, hRz, hRy, hTb16.same s17⟩, fun H18 v6 s18 hv6 => ⟨v5, v6, rfl, rfl, v, v5 + v6, rfl, rfl, _, rfl, ?_⟩⟩
    rw [decide_eq_false (show ¬ v5 + v6 < v by have := few_tri hxz hyz.symm (far_few hmp hv5) (far_few hmp hv6) hF; omega)]
    refine iteF ?_
    have s1618 := s17.trans s18
    have ha18 := s1618 _ _ ha16
    have hb18 := s1618 _ _ hb16
    have hc18 := s1618 _ _ hc16
    have hTb18 : Tabs Tb H18 := hTb16.same s1618
    -- a dial less
    have ec : ∀ zs : List Int, cutV (zs.map V.int) (some 1) none = (zs.drop 1).map V.int := fun zs => by
      rw [show (1 : Int) = ((1 : Nat) : Int) from rfl, cut_from, List.map_drop]
    refine ⟨_, rfl, _, rfl, _, rfl, 1, rfl, b, _, rfl, SqL.of hb18, fun q3 hq3 => ?_⟩
    rw [ec]
    have w19 : Same H18 (upd H18 q3 (.lst ((xs.drop 1).map V.int))) := same_new hq3
    have e19 : (upd H18 q3 (.lst ((xs.drop 1).map V.int))) q3 = some (.lst ((xs.drop 1).map V.int)) := upd_same
    generalize upd H18 q3 (.lst ((xs.drop 1).map V.int)) = H19 at w19 e19 ⊢
    refine ⟨_, rfl, 1, rfl, c, _, rfl, SqL.of (w19 _ _ hc18), fun q4 hq4 => ?_⟩
    rw [ec]
    have w20 : Same H19 (upd H19 q4 (.lst ((ys.drop 1).map V.int))) := same_new hq4
    have e20 : (upd H19 q4 (.lst ((ys.drop 1).map V.int))) q4 = some (.lst ((ys.drop 1).map V.int)) := upd_same
    generalize upd H19 q4 (.lst ((ys.drop 1).map V.int)) = H20 at w20 e20 ⊢
    refine ⟨m, q3, q4, _, _, rfl, ⟨SqL.of (w20 _ _ e19), SqL.of e20, by rw [List.length_drop, List.length_drop]; omega, by rw [List.length_drop]; omega, hm2, hbig, hRx.drop 1, hRy.drop 1, hTb18.same (w19.trans w20)⟩, fun H21 v7 s21 hv7 => ⟨v, v7, rfl, rfl, _, rfl, ?_⟩⟩
    have htail : v7 ≤ v := by
      have h7 := far_few hmp hv7
      cases xs with
      | nil =>
        cases ys with
        | nil => exact Int.le_of_eq (h7.uniq hF)
        | cons _ _ => simp at hxy
      | cons x xr =>
        cases ys with
        | nil => simp at hxy
        | cons y yr => exact few_tail hF h7
    rw [decide_eq_false (show ¬ v < v7 by omega)]
    refine iteF ?_
    have s1821 := (w19.trans w20).trans s21
    have ha21 := s1821 _ _ ha18
    have hb21 := s1821 _ _ hb18
    -- three dials of few figures
    refine ⟨_, rfl, 3, rfl, b, _, rfl, SqL.of hb21, fun q5 hq5 => ?_⟩
    rw [show cutV (xs.map V.int) none (some (3 : Int)) = (xs.take 3).map V.int by rw [show (3 : Int) = ((3 : Nat) : Int) from rfl, cut_nat, List.map_take]]
    have w22 : Same H21 (upd H21 q5 (.lst ((xs.take 3).map V.int))) := same_new hq5
    have e22 : (upd H21 q5 (.lst ((xs.take 3).map V.int))) q5 = some (.lst ((xs.take 3).map V.int)) := upd_same
    generalize upd H21 q5 (.lst ((xs.take 3).map V.int)) = H22 at w22 e22 ⊢
    have hl3 : (xs.take 3).length ≤ 3 := by rw [List.length_take]; omega
    refine ⟨q5, rfl, ⟨_, SqL.of e22⟩, fun L3 hL3 => lc_list (K := K) (a := q5) (xs := (xs.take 3).map V.int) (fun i H' => Same H22 H' ∧ H' L3 = some (.lst ((((xs.take 3).map fun y => y % 4).take i).map V.int))) ⟨same_new hL3, upd_same⟩ (fun i H' _ h => SqL.of (h.1 _ _ e22)) ?_ ?_⟩
    · rintro j u H' hj ⟨sm, hLj⟩
      obtain ⟨z, hz, rfl⟩ := map_at hj
      have hj99 := at_lt hz
      have gz : ((xs.take 3).map fun y => y % 4)[j]? = some (z % 4) := by rw [List.getElem?_map, hz]; rfl
      refine ⟨rfl, _, rfl, z, 4, rfl, rfl, (by show (0 : Int) < 4; decide), _, hLj, ?_, smut sm hL3, ?_⟩
      · rw [List.length_map, List.length_take]
        exact line_lt (by omega)
      · rw [upd_same, take_snoc gz, List.map_append]; rfl
    rintro H23 ⟨s23, hL23⟩
    rw [List.length_map, List.take_of_length_le (by rw [List.length_map]; exact Nat.le_refl _)] at hL23
    have s2123 := w22.trans s23
    refine ⟨_, rfl, a0, ns, rfl, SqL.of (s2123 _ _ ha21), _, 3, rfl, rfl, (by show (0 : Int) < 3; decide), 2, _, rfl, rfl, ?_⟩
    show gName 11 (V.int (2 + ns.sum % 3)) _ _ _
    obtain ⟨nf, hn2, hn4, hnf⟩ : ∃ nf : Nat, 2 ≤ nf ∧ nf ≤ 4 ∧ 2 + ns.sum % 3 = (nf : Int) := ⟨(2 + ns.sum % 3).toNat, by omega, by omega, by omega⟩
    rw [hnf]
    have hn0 : (0 : Int) < (nf : Int) := by omega
    refine ⟨_, rfl, L3, rfl, ⟨_, SqL.of hL23⟩, fun L4 hL4 => lc_list (K := K) (a := L3) (xs := ((xs.take 3).map fun y => y % 4).map V.int) (fun i H' => Same H23 H' ∧ H' L4 = some (.lst (((((xs.take 3).map fun y => y % 4).map fun y => y % (nf : Int)).take i).map V.int))) ⟨same_new hL4, upd_same⟩ (fun i H' _ h => SqL.of (h.1 _ _ hL23)) ?_ ?_⟩
    · rintro j u H' hj ⟨sm, hLj⟩
      obtain ⟨z, hz, rfl⟩ := map_at hj
      have hj99 := at_lt hz
      have gz : (((xs.take 3).map fun y => y % 4).map fun y => y % (nf : Int))[j]? = some (z % (nf : Int)) := by rw [List.getElem?_map, hz]; rfl
      refine ⟨rfl, _, rfl, _, rfl, z, _, rfl, rfl, hn0, _, hLj, ?_, smut sm hL4, ?_⟩
      · rw [List.length_map, List.length_take, List.length_map, List.length_map]
        exact line_lt (by omega)
      · rw [upd_same, take_snoc gz, List.map_append]; rfl
    rintro H24 ⟨s24, hL24⟩
    rw [List.length_map, List.take_of_length_le (by rw [List.length_map]; exact Nat.le_refl _)] at hL24
    obtain ⟨row, hrow⟩ : ∃ row, row = ((xs.take 3).map fun y => y % 4).map fun y => y % (nf : Int) := ⟨_, rfl⟩
    rw [← hrow] at hL24
    have hRr : RowOk (nf : Int) row := fun z hz => by
      rw [hrow] at hz
      obtain ⟨y, _, e⟩ := List.mem_map.mp hz
      rw [← e]
      exact ⟨Int.emod_nonneg _ (by omega), Int.emod_lt_of_pos _ hn0⟩
    have hrl : row.length ≤ 3 := by rw [hrow, List.length_map, List.length_map]; exact hl3
    refine ⟨_, rfl, _, rfl, nf, L4, row, rfl, SqL.of hL24, hn2, hn4, hRr, hrl, fun H25 dd es k s25 hdd hWk hend => ?_⟩
    have hL25 := s25 _ _ hL24
    have hTb25 : Tabs Tb H25 := hTb18.same ((s1821.trans s2123).trans (s24.trans s25))
    have hn64 : (nf : Int).natAbs < 2 ^ 64 := by
      have : (4 : Nat) < 2 ^ 64 := by decide
      omega
    obtain ⟨t, hrg⟩ := cube_range hn2 hn4
    refine ⟨_, rfl, L4, _, rfl, .inl (SqL.of hL25), rfl, _, rfl, ite_both ⟨⟨_, rfl, _, 3, rfl, rfl, ⟨by decide, by decide, hn64⟩, 0, _, 3, t, rfl, hrg, ?_⟩, ⟨0, 1, 3, 1, rfl, one_range, ?_⟩⟩⟩
    all_goals
      refine for_rangeC (lo := 0) (c := 3) (fun _ σ H' => ∃ x13 x14 : Option V, σ = [some (.ref a0), some (.int m), some (.ref b), some (.ref c), some (.ref d), some (.ref hh), some (.int v), some (.int by'), some (.ref L1), some (.ref L2), some (.ref L4), some (.int (nf : Int)), some (.ref dd), x13, x14, none] ∧ Same H25 H') ⟨none, none, rfl, Same.refl _⟩ ?_ ?_
      · rintro i σ H26 hi ⟨x13, x14, rfl, s26⟩
        generalize (0 : Int) + (i : Nat) * 3 = z
        refine ⟨_, rfl, _, rfl, _, _, rfl, rfl, hn0, _, rfl, _, rfl, _, _, rfl, rfl, ⟨hn0, by omega⟩, _, rfl, _, _, rfl, rfl, hn0, _, rfl, _, rfl, _, _, rfl, rfl, ⟨hn0, by omega⟩, _, rfl, _, _, rfl, rfl, ⟨hn0, by omega⟩, _, rfl, _, _, rfl, rfl, hn0, (by show 3 ≤ sizeLine; decide), fun T hT => ?_⟩
        have hR3 : RowOk (nf : Int) [z % (nf : Int), z / (nf : Int) % (nf : Int), z / (nf : Int) / (nf : Int) % (nf : Int)] := fun y hy => by
          simp only [List.mem_cons, List.not_mem_nil, or_false] at hy
          rcases hy with e | e | e <;> rw [e] <;> exact ⟨Int.emod_nonneg _ (by omega), Int.emod_lt_of_pos _ hn0⟩
        have hl3' : [z % (nf : Int), z / (nf : Int) % (nf : Int), z / (nf : Int) / (nf : Int) % (nf : Int)].length = 3 := rfl
        obtain ⟨tr, htr⟩ : ∃ tr, tr = [z % (nf : Int), z / (nf : Int) % (nf : Int), z / (nf : Int) / (nf : Int) % (nf : Int)] := ⟨_, rfl⟩
        rw [← htr] at hR3 hl3'
        try dsimp only
        generalize hG : upd H26 T (.lst [.int (z % (nf : Int)), .int (z / (nf : Int) % (nf : Int)), .int (z / (nf : Int) / (nf : Int) % (nf : Int))]) = H27
        have w27 : Same H26 H27 := by rw [← hG]; exact same_new hT
        have e27 : H27 T = some (.lst (tr.map V.int)) := by rw [← hG, htr]; exact upd_same
        have hL27 := w27 _ _ (s26 _ _ hL25)
        refine ⟨_, rfl, L4, _, rfl, .inl (SqL.of hL27), _, rfl, T, _, rfl, SqL.of e27, fun hr' hhr => ?_⟩
        rw [cut_nat, List.length_map, ← List.map_take]
        have w28 : Same H27 (upd H27 hr' (.lst ((tr.take row.length).map V.int))) := same_new hhr
        have e28 : (upd H27 hr' (.lst ((tr.take row.length).map V.int))) hr' = some (.lst ((tr.take row.length).map V.int)) := upd_same
        generalize upd H27 hr' (.lst ((tr.take row.length).map V.int)) = H28 at w28 e28 ⊢
        have hlt : (tr.take row.length).length = row.length := by rw [List.length_take]; omega
        have hRt := hR3.take row.length
        generalize tr.take row.length = here at w28 e28 hlt hRt ⊢
        refine ⟨_, rfl, _, rfl, _, rfl, (nf : Int), L4, hr', row, here, rfl, ⟨SqL.of (w28 _ _ hL27), SqL.of e28, hlt.symm, by omega, by omega, by omega, hRr, hRt, hTb25.same ((s26.trans w27).trans w28)⟩, fun H29 u s29 ⟨ds', k', hrt, hu⟩ => ?_⟩
        have w2529 := ((s26.trans w27).trans w28).trans s29
        refine ⟨_, rfl, _, rfl, hr', _, rfl, .inl ⟨SqL.of (s29 _ _ e28), fun T1 hT1 => ?_⟩⟩
        have w30 : Same H29 (upd H29 T1 (.tup (here.map V.int))) := same_new hT1
        have e30 : (upd H29 T1 (.tup (here.map V.int))) T1 = some (.tup ((keyOf here).map kV)) := by rw [upd_same, keyOf_V]
        generalize upd H29 T1 (.tup (here.map V.int)) = H30 at w30 e30 ⊢
        have hval : valV (metK es) (keyOf here) = some (.int u) := by
          rw [← hu]
          exact met_val hWk.nd (hWk.found hn0 hRr hend hrt)
        refine ⟨dd, .int u, rfl, ?_, rfl, _, rfl, ?_⟩
        · rw [← hval]
          exact DGet.t (w30 _ _ (w2529 _ _ hdd)) e30
        rw [decide_eq_true rfl]
        exact iteF ⟨_, _, rfl, w2529.trans w30⟩
      · rintro σ H26 ⟨x13, x14, rfl, s26⟩
        refine ⟨(by show 2 ≤ sizeLine; decide), fun p1 hp1 => ?_⟩
        have v1 : Same H26 (upd H26 p1 (.lst (([0, 0] : List Int).map V.int))) := same_new hp1
        have g1 : (upd H26 p1 (.lst (([0, 0] : List Int).map V.int))) p1 = some (.lst (([0, 0] : List Int).map V.int)) := upd_same
        refine ⟨(by show 2 ≤ sizeLine; decide), fun p2 hp2 => ?_⟩
        have v2 : Same (upd H26 p1 (.lst (([0, 0] : List Int).map V.int))) (upd (upd H26 p1 (.lst (([0, 0] : List Int).map V.int))) p2 (.lst (([9, 1] : List Int).map V.int))) := same_new hp2
        have g2 : (upd (upd H26 p1 (.lst (([0, 0] : List Int).map V.int))) p2 (.lst (([9, 1] : List Int).map V.int))) p2 = some (.lst (([9, 1] : List Int).map V.int)) := upd_same
        refine ⟨10, p1, p2, [0, 0], [9, 1], rfl, ⟨SqL.of (v2 _ _ g1), SqL.of g2, rfl, by decide, by decide, by decide +kernel, fun y hy => ?_, fun y hy => ?_, (hTb25.same (s26.trans v1)).same v2⟩, fun H27 u s27 hu => ⟨rfl, _, rfl, ?_⟩⟩
        · simp only [List.mem_cons, List.not_mem_nil, or_false, or_self] at hy
          subst hy; decide
        · simp only [List.mem_cons, List.not_mem_nil, or_false] at hy
          rcases hy with e | e <;> subst e <;> decide
        rw [decide_eq_true (congrArg V.int (far_two (far_few (by decide) hu)))]
        refine iteT ⟨(by show 0 ≤ sizeLine; decide), fun p3 hp3 => ?_⟩
        have g3 : (upd H27 p3 (.lst (([] : List Int).map V.int))) p3 = some (.lst (([] : List Int).map V.int)) := upd_same
        refine ⟨(by show 0 ≤ sizeLine; decide), fun p4 hp4 => ?_⟩
        have v4 : Same (upd H27 p3 (.lst (([] : List Int).map V.int))) (upd (upd H27 p3 (.lst (([] : List Int).map V.int))) p4 (.lst (([] : List Int).map V.int))) := same_new hp4
        have g4 : (upd (upd H27 p3 (.lst (([] : List Int).map V.int))) p4 (.lst (([] : List Int).map V.int))) p4 = some (.lst (([] : List Int).map V.int)) := upd_same
        refine ⟨2, p3, p4, [], [], rfl, ⟨SqL.of (v4 _ _ g3), SqL.of g4, rfl, by decide, by decide, by decide +kernel, fun y hy => (nomatch hy), fun y hy => (nomatch hy), ((((hTb25.same (s26.trans v1)).same v2).same s27).same (same_new hp3)).same v4⟩, fun H28 u2 s28 hu2 => ⟨rfl, ?_⟩⟩
        rw [decide_eq_true (congrArg V.int ((far_few (by decide) hu2).uniq (few_self (m := 2) [])))]
        exact q _
end
end DR
namespace DR
open PySem PySem.Spec PyProof.Rows L2
theorem all_mk {l : PySem.W.OpenLaw} {q : Program} {w : World} {K : PySem.W.Frag} {h : Heap} {mg : Str → Option Value} {fa : Addr} (X : K.In h) (G : h.Ns mainGlobals mg) (hfa : mg "law" = some (.ref fa))
    (TT : ∀ (y : Str) (c P : Addr), ((recsOf q).find? fun e => e.name == y).isSome = true → PySem.W.tabIn K y = some (c, P) → PySem.W.CodeHd h c P ∧ h.get? P = some { cls := .none, data := .fields #[] })
    {f1 f2 f3 f4 f5 f6 f7 f8 f9 f10 f11 f12 f13 f14 : Addr}
    {od1 an1 od2 an2 od3 an3 od4 an4 od5 an5 od6 an6 od7 an7 od8 an8 od9 an9 od10 an10 od11 an11 od12 an12 od13 an13 od14 an14 : Option Addr} {sl1 sl2 sl3 sl4 sl5 sl6 sl7 sl8 sl9 sl10 sl11 sl12 sl13 sl14 : Array (Option Value)} {oc1 kV1 dc1 pm1 ct1 cd1 oc2 kV2 dc2 pm2 ct2 cd2 oc3 kV3 dc3 pm3 ct3 cd3 oc4 kV4 dc4 pm4 ct4 oc5 kV5 dc5 pm5 ct5 cd5 oc6 kV6 dc6 pm6 ct6 cd6 oc7 kV7 dc7 pm7 ct7 cd7 oc8 kV8 dc8 pm8 ct8 cd8 oc9 kV9 dc9 pm9 ct9 cd9 oc10 kV10 dc10 pm10 ct10 cd10 oc11 kV11 dc11 pm11 ct11 cd11 oc12 kV12 dc12 pm12 ct12 cd12 oc13 kV13 dc13 pm13 ct13 cd13 oc14 kV14 dc14 pm14 ct14 cd14 : Value}
    {c4 P4 : Addr} {ec4 : Value} {dd4 : Option Addr} {vs4 : Array Value} {sc4 : Array (Option Value)}
    {C fm0 : Addr} {odm0 anm0 : Option Addr} {slm0 : Array (Option Value)} {ocm0 kVm0 dcm0 pmm0 cdm0 ctm0 : Value}
    (a1 : PySem.W.nsIn K mainGlobals "is_number" = some (some (.ref f1))) (l1 : K.lookup f1 = some ⟨oc1, od1, .func (PySem.W.fnOf "is_number" "is_number" (defArgs sNum) (defBody sNum) (defScope sNum) .none kV1 dc1 pm1 an1 cd1 ct1), sl1⟩) (e1 : PySem.W.codeIn K cd1 "is_number" = true) (k1 : PySem.W.keepIn K (.ref f1) = true)
    (a2 : PySem.W.nsIn K mainGlobals "check_size" = some (some (.ref f2))) (l2 : K.lookup f2 = some ⟨oc2, od2, .func (PySem.W.fnOf "check_size" "check_size" (defArgs sSize) (defBody sSize) (defScope sSize) .none kV2 dc2 pm2 an2 cd2 ct2), sl2⟩) (e2 : PySem.W.codeIn K cd2 "check_size" = true) (k2 : PySem.W.keepIn K (.ref f2) = true)
    (a3 : PySem.W.nsIn K mainGlobals "check_row" = some (some (.ref f3))) (l3 : K.lookup f3 = some ⟨oc3, od3, .func (PySem.W.fnOf "check_row" "check_row" (defArgs sRow) (defBody sRow) (defScope sRow) .none kV3 dc3 pm3 an3 cd3 ct3), sl3⟩) (e3 : PySem.W.codeIn K cd3 "check_row" = true) (k3 : PySem.W.keepIn K (.ref f3) = true)
    (a4 : PySem.W.nsIn K mainGlobals "steps_of" = some (some (.ref f4))) (l4 : K.lookup f4 = some ⟨oc4, od4, .func (PySem.W.fnOf "steps_of" "steps_of" (defArgs sSteps) (defBody sSteps) (defScope sSteps) .none kV4 dc4 pm4 an4 (.ref c4) ct4), sl4⟩) (e4 : PySem.W.codeIn K (.ref c4) "steps_of" = true) (k4 : PySem.W.keepIn K (.ref f4) = true)
    (lc4 : K.lookup c4 = some ⟨ec4, dd4, .fields vs4, sc4⟩) (v4 : vs4[11]? = some (.ref P4)) (nP4 : K.lookup P4 = none) (rc4 : ((recsOf q).find? fun e => e.name == ("steps_of" : Str)).isSome = true)
    (a5 : PySem.W.nsIn K mainGlobals "gaps_between" = some (some (.ref f5))) (l5 : K.lookup f5 = some ⟨oc5, od5, .func (PySem.W.fnOf "gaps_between" "gaps_between" (defArgs sGaps) (defBody sGaps) (defScope sGaps) .none kV5 dc5 pm5 an5 cd5 ct5), sl5⟩) (e5 : PySem.W.codeIn K cd5 "gaps_between" = true) (k5 : PySem.W.keepIn K (.ref f5) = true)
    (a6 : PySem.W.nsIn K mainGlobals "check_rows" = some (some (.ref f6))) (l6 : K.lookup f6 = some ⟨oc6, od6, .func (PySem.W.fnOf "check_rows" "check_rows" (defArgs sRows) (defBody sRows) (defScope sRows) .none kV6 dc6 pm6 an6 cd6 ct6), sl6⟩) (e6 : PySem.W.codeIn K cd6 "check_rows" = true) (k6 : PySem.W.keepIn K (.ref f6) = true)
    (a7 : PySem.W.nsIn K mainGlobals "least_changes" = some (some (.ref f7))) (l7 : K.lookup f7 = some ⟨oc7, od7, .func (PySem.W.fnOf "least_changes" "least_changes" (defArgs sLeast) (defBody sLeast) (defScope sLeast) .none kV7 dc7 pm7 an7 cd7 ct7), sl7⟩) (e7 : PySem.W.codeIn K cd7 "least_changes" = true) (k7 : PySem.W.keepIn K (.ref f7) = true)
    (a8 : PySem.W.nsIn K mainGlobals "deeds_over" = some (some (.ref f8))) (l8 : K.lookup f8 = some ⟨oc8, od8, .func (PySem.W.fnOf "deeds_over" "deeds_over" (defArgs sOver) (defBody sOver) (defScope sOver) .none kV8 dc8 pm8 an8 cd8 ct8), sl8⟩) (e8 : PySem.W.codeIn K cd8 "deeds_over" = true) (k8 : PySem.W.keepIn K (.ref f8) = true)
    (a9 : PySem.W.nsIn K mainGlobals "best" = some (some (.ref f9))) (l9 : K.lookup f9 = some ⟨oc9, od9, .func (PySem.W.fnOf "best" "best" (defArgs sBest) (defBody sBest) (defScope sBest) .none kV9 dc9 pm9 an9 cd9 ct9), sl9⟩) (e9 : PySem.W.codeIn K cd9 "best" = true) (k9 : PySem.W.keepIn K (.ref f9) = true)
    (a10 : PySem.W.nsIn K mainGlobals "apart" = some (some (.ref f10))) (l10 : K.lookup f10 = some ⟨oc10, od10, .func (PySem.W.fnOf "apart" "apart" (defArgs sApart) (defBody sApart) (defScope sApart) .none kV10 dc10 pm10 an10 cd10 ct10), sl10⟩) (e10 : PySem.W.codeIn K cd10 "apart" = true) (k10 : PySem.W.keepIn K (.ref f10) = true)
    (a11 : PySem.W.nsIn K mainGlobals "_law_size" = some (some (.ref f11))) (l11 : K.lookup f11 = some ⟨oc11, od11, .func (PySem.W.fnOf "_law_size" "_law_size" (defArgs lSize) (defBody lSize) (defScope lSize) .none kV11 dc11 pm11 an11 cd11 ct11), sl11⟩) (e11 : PySem.W.codeIn K cd11 "_law_size" = true) (k11 : PySem.W.keepIn K (.ref f11) = true)
    (a12 : PySem.W.nsIn K mainGlobals "_law_row" = some (some (.ref f12))) (l12 : K.lookup f12 = some ⟨oc12, od12, .func (PySem.W.fnOf "_law_row" "_law_row" (defArgs lRow) (defBody lRow) (defScope lRow) .none kV12 dc12 pm12 an12 cd12 ct12), sl12⟩) (e12 : PySem.W.codeIn K cd12 "_law_row" = true) (k12 : PySem.W.keepIn K (.ref f12) = true)
    (a13 : PySem.W.nsIn K mainGlobals "_law_walked" = some (some (.ref f13))) (l13 : K.lookup f13 = some ⟨oc13, od13, .func (PySem.W.fnOf "_law_walked" "_law_walked" (defArgs lWalked) (defBody lWalked) (defScope lWalked) .none kV13 dc13 pm13 an13 cd13 ct13), sl13⟩) (e13 : PySem.W.codeIn K cd13 "_law_walked" = true) (k13 : PySem.W.keepIn K (.ref f13) = true)
    (a14 : PySem.W.nsIn K mainGlobals "law" = some (some (.ref f14))) (l14 : K.lookup f14 = some ⟨oc14, od14, .func (PySem.W.fnOf "law" "law" (defArgs sLaw) (defBody sLaw) (defScope sLaw) .none kV14 dc14 pm14 an14 cd14 ct14), sl14⟩) (e14 : PySem.W.codeIn K cd14 "law" = true) (k14 : PySem.W.keepIn K (.ref f14) = true)
    (z0 : PySem.W.nsIn K mainGlobals "isinstance" = some none)
    (z1 : PySem.W.nsIn K mainGlobals "int" = some none)
    (z2 : PySem.W.nsIn K mainGlobals "bool" = some none)
    (z3 : PySem.W.nsIn K mainGlobals "list" = some none)
    (z4 : PySem.W.nsIn K mainGlobals "tuple" = some none)
    (z5 : PySem.W.nsIn K mainGlobals "len" = some none)
    (z6 : PySem.W.nsIn K mainGlobals "enumerate" = some none)
    (z7 : PySem.W.nsIn K mainGlobals "sum" = some none)
    (z8 : PySem.W.nsIn K mainGlobals "range" = some none)
    (z9 : PySem.W.nsIn K mainGlobals "all" = some none)
    (z10 : PySem.W.nsIn K mainGlobals "zip" = some none)
    (z11 : PySem.W.nsIn K mainGlobals "min" = some none)
    (z12 : PySem.W.nsIn K mainGlobals "abs" = some none)
    (z13 : PySem.W.nsIn K mainGlobals "sorted" = some none)
    (aC : PySem.W.nsIn K mainGlobals "Best" = some (some (.ref C)))
    (am0 : PySem.W.findIn K (.ref C) "__init__" = some (some (.ref fm0)))
    (im0 : PySem.W.isFn K (.ref fm0) = true)
    (lm0 : K.lookup fm0 = some ⟨ocm0, odm0, .func (PySem.W.fnOf "__init__" "Best.__init__" (defArgs cBest_init) (defBody cBest_init) (defScope cBest_init) .none kVm0 dcm0 pmm0 anm0 cdm0 ctm0), slm0⟩)
    (em0 : PySem.W.codeIn K cdm0 "Best.__init__" = true)
    (km0 : PySem.W.keepIn K (.ref fm0) = true)
    (pg : PySem.W.plainGet K C Str.empty = true)
    (hd : PySem.W.hasDictIn K C = true)
    (po : PySem.W.plainOver K C = true)
    (sa : PySem.W.findIn K (.ref C) "__setattr__" = some (some (.builtin "object.__setattr__")))
    (mkC : PySem.W.makesIn K C = true)
    (kcC : PySem.W.keepIn K (.ref C) = true)
    (nD : PySem.W.findIn K (.ref C) "deeds" = some none)
    (nM : PySem.W.findIn K (.ref C) "mark" = some none)
    (haC : PySem.W.findIn K (.ref C) "__class__" = some (some (.builtin "object.__class__")))
    (hnC : PySem.W.specialIn K (.builtin "object.__class__") "__get__" = some (some (.builtin "getset_descriptor.__get__")))
    (htC : PySem.W.takesIn K (.builtin "object.__class__") = some true)
    (hmC : PySem.W.mroIn K C (.type "object") = some true)
    : LamX.LawAtS l w K CX0 11 63 "_law_script" mg fa h := by
  have e := hfa.symm.trans (PySem.W.mg_of X G a14)
  cases e
  have B : Blt mg := ⟨PySem.W.mg_none_of X G z0, PySem.W.mg_none_of X G z1, PySem.W.mg_none_of X G z2, PySem.W.mg_none_of X G z3, PySem.W.mg_none_of X G z4, PySem.W.mg_none_of X G z5, PySem.W.mg_none_of X G z6, PySem.W.mg_none_of X G z7, PySem.W.mg_none_of X G z8, PySem.W.mg_none_of X G z9⟩
  have B2 : Blt2 mg := ⟨PySem.W.mg_none_of X G z10, PySem.W.mg_none_of X G z11, PySem.W.mg_none_of X G z12⟩
  have B3 : Blt3 mg := ⟨PySem.W.mg_none_of X G z13⟩
  have D1 : Def K mg "is_number" sNum ["thing"] := def_mk X G a1 l1 e1 k1 fun _ _ _ _ _ _ us hl => match us, hl with | [_], _ => rfl
  have D2 : Def K mg "check_size" sSize ["size"] := def_mk X G a2 l2 e2 k2 fun _ _ _ _ _ _ us hl => match us, hl with | [_], _ => rfl
  have D3 : Def K mg "check_row" sRow ["size", "row"] := def_mk X G a3 l3 e3 k3 fun _ _ _ _ _ _ us hl => match us, hl with | [_, _], _ => rfl
  have D4 : DefT K mg "steps_of" sSteps ["deeds"] c4 := defT_mk X G a4 l4 e4 k4 fun _ _ _ _ _ _ us hl => match us, hl with | [_], _ => rfl
  have U4 := TT "steps_of" c4 P4 rc4 (tabIn_of a4 l4 rfl lc4 v4)
  have D5 : Def K mg "gaps_between" sGaps ["size", "one", "other"] := def_mk X G a5 l5 e5 k5 fun _ _ _ _ _ _ us hl => match us, hl with | [_, _, _], _ => rfl
  have D6 : Def K mg "check_rows" sRows ["size", "one", "other"] := def_mk X G a6 l6 e6 k6 fun _ _ _ _ _ _ us hl => match us, hl with | [_, _, _], _ => rfl
  have D7 : Def K mg "least_changes" sLeast ["size", "gaps"] := def_mk X G a7 l7 e7 k7 fun _ _ _ _ _ _ us hl => match us, hl with | [_, _], _ => rfl
  have D8 : Def K mg "deeds_over" sOver ["changes"] := def_mk X G a8 l8 e8 k8 fun _ _ _ _ _ _ us hl => match us, hl with | [_], _ => rfl
  have D9 : Def K mg "best" sBest ["size", "one", "other"] := def_mk X G a9 l9 e9 k9 fun _ _ _ _ _ _ us hl => match us, hl with | [_, _, _], _ => rfl
  have D10 : Def K mg "apart" sApart ["size", "one", "other"] := def_mk X G a10 l10 e10 k10 fun _ _ _ _ _ _ us hl => match us, hl with | [_, _, _], _ => rfl
  have D11 : Def K mg "_law_size" lSize ["_law_script"] := def_mk X G a11 l11 e11 k11 fun _ _ _ _ _ _ us hl => match us, hl with | [_], _ => rfl
  have D12 : Def K mg "_law_row" lRow ["_law_script", "_law_size_here", "_law_by"] := def_mk X G a12 l12 e12 k12 fun _ _ _ _ _ _ us hl => match us, hl with | [_, _, _], _ => rfl
  have D13 : Def K mg "_law_walked" lWalked ["_law_size_here", "_law_start"] := def_mk X G a13 l13 e13 k13 fun _ _ _ _ _ _ us hl => match us, hl with | [_, _], _ => rfl
  have D14 : Def K mg "law" sLaw ["_law_script"] := def_mk X G a14 l14 e14 k14 fun _ _ _ _ _ _ us hl => match us, hl with | [_], _ => rfl
  have T : BestCls K mg C := ⟨⟨pg, hd, po, sa⟩, nD, nM, PySem.W.mg_of X G aC, haC, hnC, htC, hmC⟩
  have DM0 : DefM K "__init__" "Best.__init__" cBest_init ["self", "deeds", "mark"] fm0 := defM_mk lm0 em0 km0 fun _ _ _ _ _ _ us hl => match us, hl with | [_, _, _], _ => rfl
  have MK : Mk K C fm0 := ⟨mkC, am0, im0, kcC⟩
  refine ⟨PySem.W.fnOf "law" "law" (defArgs sLaw) (defBody sLaw) (defScope sLaw) .none kV14 dc14 pm14 an14 cd14 ct14, [(c4, P4)], spLaw [P4] K, ?_, ?_, ?_, fun s v => .of_eq rfl, ?_, fun base _ _ TB => ?_⟩
  · intro p hp
    simp only [List.mem_cons, List.not_mem_nil, or_false] at hp
    rcases hp with rfl
    · exact U4.2
  · intro p hp
    simp only [List.mem_cons, List.not_mem_nil, or_false] at hp
    rcases hp with rfl
    · exact nP4
  · intro p hp
    simp only [List.mem_cons, List.not_mem_nil, or_false] at hp
    rcases hp with rfl
    · exact U4.1
  · intro H a ns hl hb hc hS
    have ht : Tabs [P4] H := tabs_of (cs := [(c4, P4)]) hc
    exact ⟨a, ns, rfl, hS, hl, hb, ht, fun _ => rfl⟩
  · have TB4 := tb_of (TB (c4, P4) (by simp))
    have GN := ok_num (P := l.prog) (w := w) (base := base) D1 B
    have GZ := ok_size D2 GN
    have GR := ok_row D3 B GN
    have GS := ok_steps (P := l.prog) (w := w) (base := base) (T := [P4]) D4 TB4 (by simp) B B2
    have GG := ok_gaps (P := l.prog) (w := w) (base := base) D5 B2
    have GK := ok_init (P := l.prog) (w := w) (base := base) DM0 MK B T
    have GB := ok_best (Tb := [P4]) D9 B T (ok_rows D6 B GZ GR) GG (ok_least D7 B B3) (ok_over D8 B B2) GK
    have GP := ok_apart D10 T GB GS
    exact (ok_law D14 B ((ok_lSize D11 B).mono (by decide)) ((ok_lRow D12 B).mono (by decide)) ((ok_lWalked D13 B).mono (by decide)) (GP.mono (by decide))).at (PySem.W.mg_of X G a14) l14
end DR
open PySem PySem.W PyProof.Rows
set_option maxRecDepth 100000 in
set_option maxHeartbeats 0 in
theorem PySem.Challenge.cw_dialrow_k03_whole_apart_holds : PySem.Challenge.rw_dialrow_k03_whole_apart.Holds := by
  w_on; o_law; k_head; (case hw => w_witness2)
  k_fill
  refine DR.walk_ofD (l := PySem.Challenge.rw_dialrow_k03_whole_apart) (n := 63) (k := 11) (x := "_law_script") (CX := fun w => L2.CX0) rfl (by decide) rfl ⟨rfl, by decide, by decide⟩ (fun w h Y => PySem.W.kIn_of Y) ?F (fun _ _ _ _ _ h => h)
  case F =>
    intro w mg fa h Y KX G hmg TT
    refine' DR.all_mk KX G hmg TT ?a1 ?l1 ?e1 ?k1 ?a2 ?l2 ?e2 ?k2 ?a3 ?l3 ?e3 ?k3 ?a4 ?l4 ?e4 ?k4 ?lc4 ?v4 ?nP4 ?rc4 ?a5 ?l5 ?e5 ?k5 ?a6 ?l6 ?e6 ?k6 ?a7 ?l7 ?e7 ?k7 ?a8 ?l8 ?e8 ?k8 ?a9 ?l9 ?e9 ?k9 ?a10 ?l10 ?e10 ?k10 ?a11 ?l11 ?e11 ?k11 ?a12 ?l12 ?e12 ?k12 ?a13 ?l13 ?e13 ?k13 ?a14 ?l14 ?e14 ?k14 ?z0 ?z1 ?z2 ?z3 ?z4 ?z5 ?z6 ?z7 ?z8 ?z9 ?z10 ?z11 ?z12 ?z13 ?aC ?am0 ?im0 ?lm0 ?em0 ?km0 ?pg ?hd ?po ?sa ?mkC ?kcC ?nD ?nM ?haC ?hnC ?htC ?hmC
    (case a1 => k_is)
    (case l1 => k_is)
    (case e1 => k_is)
    (case k1 => k_is)
    (case a2 => k_is)
    (case l2 => k_is)
    (case e2 => k_is)
    (case k2 => k_is)
    (case a3 => k_is)
    (case l3 => k_is)
    (case e3 => k_is)
    (case k3 => k_is)
    (case a4 => k_is)
    (case l4 => k_is)
    (case e4 => k_is)
    (case k4 => k_is)
    (case lc4 => k_is)
    (case v4 => exact rfl)
    (case nP4 => kernel_rfl)
    (case rc4 => kernel_rfl)
    (case a5 => k_is)
    (case l5 => k_is)
    (case e5 => k_is)
    (case k5 => k_is)
    (case a6 => k_is)
    (case l6 => k_is)
    (case e6 => k_is)
    (case k6 => k_is)
    (case a7 => k_is)
    (case l7 => k_is)
    (case e7 => k_is)
    (case k7 => k_is)
    (case a8 => k_is)
    (case l8 => k_is)
    (case e8 => k_is)
    (case k8 => k_is)
    (case a9 => k_is)
    (case l9 => k_is)
    (case e9 => k_is)
    (case k9 => k_is)
    (case a10 => k_is)
    (case l10 => k_is)
    (case e10 => k_is)
    (case k10 => k_is)
    (case a11 => k_is)
    (case l11 => k_is)
    (case e11 => k_is)
    (case k11 => k_is)
    (case a12 => k_is)
    (case l12 => k_is)
    (case e12 => k_is)
    (case k12 => k_is)
    (case a13 => k_is)
    (case l13 => k_is)
    (case e13 => k_is)
    (case k13 => k_is)
    (case a14 => k_is)
    (case l14 => k_is)
    (case e14 => k_is)
    (case k14 => k_is)
    (case z0 => k_is)
    (case z1 => k_is)
    (case z2 => k_is)
    (case z3 => k_is)
    (case z4 => k_is)
    (case z5 => k_is)
    (case z6 => k_is)
    (case z7 => k_is)
    (case z8 => k_is)
    (case z9 => k_is)
    (case z10 => k_is)
    (case z11 => k_is)
    (case z12 => k_is)
    (case z13 => k_is)
    (case aC => k_is)
    (case am0 => k_is)
    (case im0 => k_is)
    (case lm0 => k_is)
    (case em0 => k_is)
    (case km0 => k_is)
    (case pg => k_is)
    (case hd => k_is)
    (case po => k_is)
    (case sa => k_is)
    (case mkC => k_is)
    (case kcC => k_is)
    (case nD => k_is)
    (case nM => k_is)
    (case haC => k_is)
    (case hnC => k_is)
    (case htC => k_is)
    (case hmC => k_is)
#print axioms PySem.Challenge.cw_dialrow_k03_whole_apart_holds
