import PyProof.Rows.All
import Wide.All
import OpenK.AllK
import Wide.FinOn
import KE.GoesMore
import HandS.Base
import HandS.Call
import HandS.List
import HandS.Comp
import HandS.AnyAll
import HandS.GenList
import PyProof.SumAny
import HandS.Words
import HandS.Ends
import HandS.EndBits
import HandS.Iter
import HandS.WordsList
import HandS.IsInst
import HandS.Walk
import HandS.Wide
import HandS.Evl
import HandS.Style
import KE.IntBitsLaws
import HandS.EndTab
import PySem.Challenge.RW_dialrow_k01_whole_turned
set_option Elab.async false
set_option linter.all false
set_option maxRecDepth 100000
set_option maxHeartbeats 4000000
/-! Dialrow: the mathematics of deeds. -/
namespace DR
abbrev Deed := Int × Int × Int
/-- how far the dial at i is turned by deeds -/
def cover : List Deed → Int → Int
  | [], _ => 0
  | d :: r, i => (if d.1 ≤ i ∧ i < d.2.1 then d.2.2 else 0) + cover r i
theorem cover_append (a b : List Deed) (i : Int) : cover (a ++ b) i = cover a i + cover b i := by
  induction a with
  | nil => show cover b i = 0 + cover b i; omega
  | cons d r ih =>
    show _ + cover (r ++ b) i = (_ + cover r i) + cover b i
    rw [ih]; omega
/-- the row behind deeds -/
def behind (m : Int) (ns : List Int) (ds : List Deed) : List Int := ns.mapIdx fun i x => (x + cover ds (i : Int)) % m
theorem behind_length (m : Int) (ns : List Int) (ds : List Deed) : (behind m ns ds).length = ns.length := by
  unfold behind; rw [List.length_mapIdx]
theorem behind_get (m : Int) (ns : List Int) (ds : List Deed) (i : Nat) : (behind m ns ds)[i]? = ns[i]?.map fun x => (x + cover ds (i : Int)) % m := by
  unfold behind; rw [List.getElem?_mapIdx]
/-- a row of the size -/
def RowOk (m : Int) (ns : List Int) : Prop := ∀ x ∈ ns, 0 ≤ x ∧ x < m
def DeedOk (n : Int) (d : Deed) : Prop := 0 ≤ d.1 ∧ d.1 < d.2.1 ∧ d.2.1 ≤ n ∧ d.2.2 ≠ 0
def DeedsOk (n : Int) (ds : List Deed) : Prop := ∀ d ∈ ds, DeedOk n d
theorem behind_ok {m : Int} (hm : 0 < m) (ns : List Int) (ds : List Deed) : RowOk m (behind m ns ds) := by
  intro x hx
  obtain ⟨i, hi⟩ := List.mem_iff_getElem?.mp hx
  rw [behind_get] at hi
  cases e : ns[i]? with
  | none => rw [e] at hi; cases hi
  | some y =>
    rw [e] at hi
    have e2 : (y + cover ds (i : Int)) % m = x := Option.some.inj hi
    rw [← e2]
    exact ⟨Int.emod_nonneg _ (by omega), Int.emod_lt_of_pos _ hm⟩
theorem behind_nil {m : Int} {ns : List Int} (h : RowOk m ns) : behind m ns [] = ns := by
  refine List.ext_getElem? fun i => ?_
  rw [behind_get]
  cases e : ns[i]? with
  | none => rfl
  | some y =>
    have := h y (List.mem_of_getElem? e)
    show some ((y + 0) % m) = some y
    rw [Int.add_zero, Int.emod_eq_of_lt this.1 this.2]
theorem behind_behind (m : Int) (ns : List Int) (a b : List Deed) : behind m (behind m ns a) b = behind m ns (a ++ b) := by
  refine List.ext_getElem? fun i => ?_
  rw [behind_get, behind_get, behind_get]
  cases ns[i]? with
  | none => rfl
  | some y =>
    show some (((y + cover a i) % m + cover b i) % m) = some ((y + cover (a ++ b) i) % m)
    rw [cover_append, Int.emod_add_emod, Int.add_assoc]
theorem behind_congr (m : Int) (ns : List Int) {a b : List Deed} (h : ∀ i : Nat, i < ns.length → cover a i % m = cover b i % m) : behind m ns a = behind m ns b := by
  refine List.ext_getElem? fun i => ?_
  rw [behind_get, behind_get]
  cases e : ns[i]? with
  | none => rfl
  | some y =>
    have hi := (List.getElem?_eq_some_iff.mp e).1
    show some ((y + cover a i) % m) = some ((y + cover b i) % m)
    rw [← Int.add_emod_emod, h i hi, Int.add_emod_emod]
theorem cover_comm (a b : List Deed) (i : Int) : cover (a ++ b) i = cover (b ++ a) i := by
  rw [cover_append, cover_append]; omega
theorem behind_comm (m : Int) (ns : List Int) (a b : List Deed) : behind m ns (a ++ b) = behind m ns (b ++ a) :=
  behind_congr m ns fun i _ => by rw [cover_comm]
/-- the deeds back again -/
def negs (ds : List Deed) : List Deed := ds.map fun d => (d.1, d.2.1, -d.2.2)
theorem cover_negs (ds : List Deed) (i : Int) : cover (negs ds) i = -cover ds i := by
  induction ds with
  | nil => rfl
  | cons d r ih =>
    show (if d.1 ≤ i ∧ i < d.2.1 then -d.2.2 else 0) + cover (negs r) i = -((if d.1 ≤ i ∧ i < d.2.1 then d.2.2 else 0) + cover r i)
    rw [ih]
    split <;> omega
theorem negs_length (ds : List Deed) : (negs ds).length = ds.length := by unfold negs; rw [List.length_map]
theorem negs_ok {n : Int} {ds : List Deed} (h : DeedsOk n ds) : DeedsOk n (negs ds) := by
  intro d hd
  obtain ⟨c, hc, e⟩ := List.mem_map.mp hd
  subst e
  obtain ⟨h1, h2, h3, h4⟩ := h c hc
  exact ⟨h1, h2, h3, by show -c.2.2 ≠ 0; omega⟩
theorem behind_back {m : Int} {ns : List Int} (h : RowOk m ns) (ds : List Deed) : behind m (behind m ns ds) (negs ds) = ns := by
  rw [behind_behind, behind_congr m ns (b := []) fun i _ => by rw [cover_append, cover_negs, Int.add_right_neg]; rfl]
  exact behind_nil h
/-! ### the marks at the ends of stretches -/
def bump (c : List Int) (k : Nat) (s : Int) : List Int := c.set k (c.getD k 0 + s)
theorem bump_length (c : List Int) (k : Nat) (s : Int) : (bump c k s).length = c.length := by unfold bump; rw [List.length_set]
theorem bump_take : ∀ (c : List Int) (k : Nat) (s : Int) (m : Nat), k < c.length → ((bump c k s).take m).sum = (c.take m).sum + if k < m then s else 0
  | [], k, s, m, h => by simp at h
  | x :: r, k, s, 0, h => by simp
  | x :: r, 0, s, m + 1, h => by
    show ((x + s) :: r.take m).sum = (x :: r.take m).sum + if 0 < m + 1 then s else 0
    rw [List.sum_cons, List.sum_cons, if_pos (by omega)]; omega
  | x :: r, k + 1, s, m + 1, h => by
    have ih := bump_take r k s m (by simpa using h)
    show (x :: (bump r k s).take m).sum = (x :: r.take m).sum + if k + 1 < m + 1 then s else 0
    rw [List.sum_cons, List.sum_cons, ih]
    by_cases q : k < m
    · rw [if_pos q, if_pos (by omega)]; omega
    · rw [if_neg q, if_neg (by omega)]; omega
def mark1 (c : List Int) (d : Deed) : List Int := bump (bump c d.1.toNat d.2.2) d.2.1.toNat (-d.2.2)
theorem mark1_length (c : List Int) (d : Deed) : (mark1 c d).length = c.length := by unfold mark1; rw [bump_length, bump_length]
def marks (n : Nat) (ds : List Deed) : List Int := ds.foldl mark1 (List.replicate (n + 1) 0)
theorem foldl_mark_length : ∀ (ds : List Deed) (c : List Int), (ds.foldl mark1 c).length = c.length
  | [], c => rfl
  | d :: r, c => by
    show (r.foldl mark1 (mark1 c d)).length = c.length
    rw [foldl_mark_length r, mark1_length]
theorem marks_length (n : Nat) (ds : List Deed) : (marks n ds).length = n + 1 := by
  unfold marks; rw [foldl_mark_length, List.length_replicate]
theorem mark1_take {c : List Int} {d : Deed} {n : Int} (hc : (c.length : Int) = n + 1) (hd : DeedOk n d) (i : Nat) :
    ((mark1 c d).take (i + 1)).sum = (c.take (i + 1)).sum + if d.1 ≤ (i : Int) ∧ (i : Int) < d.2.1 then d.2.2 else 0 := by
  obtain ⟨h1, h2, h3, h4⟩ := hd
  unfold mark1
  rw [bump_take _ _ _ _ (by rw [bump_length]; omega), bump_take _ _ _ _ (by omega)]
  by_cases p : d.1 ≤ (i : Int)
  · rw [if_pos (show d.1.toNat < i + 1 by omega)]
    by_cases q : (i : Int) < d.2.1
    · rw [if_neg (show ¬ d.2.1.toNat < i + 1 by omega), if_pos ⟨p, q⟩]; omega
    · rw [if_pos (show d.2.1.toNat < i + 1 by omega), if_neg (fun z => q z.2)]; omega
  · rw [if_neg (show ¬ d.1.toNat < i + 1 by omega), if_neg (show ¬ d.2.1.toNat < i + 1 by omega), if_neg (fun z => p z.1)]; omega
theorem sum_zeros : ∀ (n m : Nat), ((List.replicate n (0 : Int)).take m).sum = 0
  | 0, m => by simp
  | n + 1, 0 => by simp
  | n + 1, m + 1 => by
    show ((0 : Int) :: (List.replicate n (0 : Int)).take m).sum = 0
    rw [List.sum_cons, sum_zeros n m]; rfl
theorem foldl_mark_take : ∀ (ds : List Deed) (c : List Int) (n : Int), (c.length : Int) = n + 1 → DeedsOk n ds → ∀ i : Nat, ((ds.foldl mark1 c).take (i + 1)).sum = (c.take (i + 1)).sum + cover ds i
  | [], c, n, hc, hd, i => by show _ = _ + (0 : Int); rw [Int.add_zero]; rfl
  | d :: r, c, n, hc, hd, i => by
    have ih := foldl_mark_take r (mark1 c d) n (by rw [mark1_length]; exact hc) (fun x hx => hd x (List.mem_cons_of_mem _ hx)) i
    show ((r.foldl mark1 (mark1 c d)).take (i + 1)).sum = _ + (_ + cover r i)
    rw [ih, mark1_take hc (hd d List.mem_cons_self)]; omega
theorem marks_take {n : Nat} {ds : List Deed} (h : DeedsOk n ds) (i : Nat) : ((marks n ds).take (i + 1)).sum = cover ds i := by
  unfold marks
  rw [foldl_mark_take ds _ (n : Int) (by rw [List.length_replicate]; omega) h i, sum_zeros]; omega
theorem marks_snoc (n : Nat) (ds : List Deed) (d : Deed) : marks n (ds ++ [d]) = mark1 (marks n ds) d := by
  unfold marks; rw [List.foldl_append]; rfl
theorem take_snoc {α : Type} {l : List α} {i : Nat} {x : α} (h : l[i]? = some x) : l.take (i + 1) = l.take i ++ [x] := by
  rw [List.take_add_one, h]; rfl
/-! ### deed by deed, dial by dial -/
theorem cover_snoc (ds : List Deed) (d : Deed) (i : Int) : cover (ds ++ [d]) i = cover ds i + if d.1 ≤ i ∧ i < d.2.1 then d.2.2 else 0 := by
  rw [cover_append]
  show _ + (_ + 0) = _
  omega
theorem behind_empty (m : Int) (ns : List Int) (ds : List Deed) (f s : Int) : behind m ns (ds ++ [(f, f, s)]) = behind m ns ds := by
  refine behind_congr m ns fun i _ => ?_
  rw [cover_snoc, if_neg (by show ¬ (f ≤ (i : Int) ∧ (i : Int) < f); omega), Int.add_zero]
theorem behind_step {m : Int} {ns : List Int} {ds : List Deed} {f s y : Int} {k : Nat} (hf : 0 ≤ f) (hy : (behind m ns (ds ++ [(f, f + k, s)]))[(f + k).toNat]? = some y) :
    (behind m ns (ds ++ [(f, f + k, s)])).set (f + k).toNat ((y + s) % m) = behind m ns (ds ++ [(f, f + (k + 1 : Nat), s)]) := by
  refine List.ext_getElem? fun i => ?_
  rw [behind_get] at hy
  rw [List.getElem?_set, behind_length, behind_get, behind_get]
  by_cases e : (f + k).toNat = i
  · subst e
    rw [if_pos rfl]
    cases q : ns[(f + k).toNat]? with
    | none => rw [q] at hy; cases hy
    | some x =>
      rw [q] at hy
      have hl := (List.getElem?_eq_some_iff.mp q).1
      rw [if_pos hl]
      have hy' : (x + cover (ds ++ [(f, f + k, s)]) ((f + k).toNat : Int)) % m = y := Option.some.inj hy
      rw [← hy', cover_snoc, cover_snoc] 
      show some _ = some _
      rw [if_neg (by show ¬ (f ≤ (((f + k).toNat : Nat) : Int) ∧ (((f + k).toNat : Nat) : Int) < f + k); omega), if_pos (by show (f ≤ (((f + k).toNat : Nat) : Int) ∧ (((f + k).toNat : Nat) : Int) < f + (k + 1 : Nat)); omega), Int.add_zero, Int.emod_add_emod, Int.add_assoc]
  · rw [if_neg e]
    cases q : ns[i]? with
    | none => rfl
    | some x =>
      show some _ = some _
      rw [cover_snoc, cover_snoc]
      have : (f ≤ (i : Int) ∧ (i : Int) < f + k) ↔ (f ≤ (i : Int) ∧ (i : Int) < f + (k + 1 : Nat)) := by omega
      show some ((x + (cover ds i + if (f ≤ (i : Int) ∧ (i : Int) < f + k) then s else 0)) % m) = some ((x + (cover ds i + if (f ≤ (i : Int) ∧ (i : Int) < f + (k + 1 : Nat)) then s else 0)) % m)
      by_cases c : (f ≤ (i : Int) ∧ (i : Int) < f + k)
      · rw [if_pos c, if_pos (this.mp c)]
      · rw [if_neg c, if_neg (fun z => c (this.mpr z))]
end DR
/-! Dialrow: the fewest steps. -/
namespace DR
/-! ### sums -/
theorem sumI_append : ∀ a b : List Int, (a ++ b).sum = a.sum + b.sum
  | [], b => by simp
  | x :: a, b => by
    rw [List.cons_append, List.sum_cons, List.sum_cons, sumI_append a b]; omega
theorem sumI_reverse : ∀ a : List Int, a.reverse.sum = a.sum
  | [] => rfl
  | x :: a => by
    rw [List.reverse_cons, sumI_append, sumI_reverse a, List.sum_cons]
    simp; omega
theorem sumI_neg : ∀ a : List Int, (a.map fun x => -x).sum = -a.sum
  | [] => rfl
  | x :: a => by
    rw [List.map_cons, List.sum_cons, List.sum_cons, sumI_neg a]; omega
/-! ### what a vector of turns costs -/
def pos (x : Int) : Int := if 0 ≤ x then x else 0
def cost (d : List Int) : Int := (d.map pos).sum
theorem pos_nonneg (x : Int) : 0 ≤ pos x := by unfold pos; split <;> omega
theorem le_pos (x : Int) : x ≤ pos x := by unfold pos; split <;> omega
theorem pos_add (x y : Int) : pos (x + y) ≤ pos x + pos y := by unfold pos; split <;> split <;> split <;> omega
theorem pos_neg (x : Int) : pos (-x) = pos x - x := by unfold pos; split <;> split <;> omega
theorem cost_cons (x : Int) (d : List Int) : cost (x :: d) = pos x + cost d := by unfold cost; rw [List.map_cons, List.sum_cons]
theorem cost_nonneg : ∀ d : List Int, 0 ≤ cost d
  | [] => Int.le_refl _
  | x :: d => by rw [cost_cons]; have := pos_nonneg x; have := cost_nonneg d; omega
theorem cost_append (a b : List Int) : cost (a ++ b) = cost a + cost b := by unfold cost; rw [List.map_append, sumI_append]
theorem cost_reverse (a : List Int) : cost a.reverse = cost a := by unfold cost; rw [List.map_reverse, sumI_reverse]
theorem cost_neg : ∀ d : List Int, cost (d.map fun x => -x) = cost d - d.sum
  | [] => rfl
  | x :: d => by
    rw [List.map_cons, cost_cons, cost_cons, cost_neg d, pos_neg, List.sum_cons]; omega
theorem cost_zero : ∀ {d : List Int}, cost d = 0 → d.sum = 0 → ∀ x ∈ d, x = 0
  | d, hc, hs => by
    have h1 : ∀ (l : List Int), (∀ x ∈ l, x ≤ 0) → l.sum = 0 → ∀ x ∈ l, x = 0 := by
      intro l
      induction l with
      | nil => intro _ _ x hx; cases hx
      | cons y r ih =>
        intro h e x hx
        have hy := h y List.mem_cons_self
        have hr : ∀ (t : List Int), (∀ x ∈ t, x ≤ 0) → t.sum ≤ 0 := by
          intro t
          induction t with
          | nil => intro _; simp
          | cons z t ih2 =>
            intro h2
            rw [List.sum_cons]
            have := h2 z List.mem_cons_self
            have := ih2 fun x hx => h2 x (List.mem_cons_of_mem _ hx)
            omega
        have h3 := hr r fun x hx => h x (List.mem_cons_of_mem _ hx)
        rw [List.sum_cons] at e
        rcases List.mem_cons.mp hx with q | q
        · omega
        · exact ih (fun x hx => h x (List.mem_cons_of_mem _ hx)) (by omega) x q
    have h2 : ∀ (l : List Int), cost l = 0 → ∀ x ∈ l, x ≤ 0 := by
      intro l
      induction l with
      | nil => intro _ x hx; cases hx
      | cons y r ih =>
        intro e x hx
        rw [cost_cons] at e
        have a := pos_nonneg y
        have b := cost_nonneg r
        rcases List.mem_cons.mp hx with q | q
        · have := le_pos y; omega
        · exact ih (by omega) x q
    exact h1 d (h2 d hc) hs
/-- by a mark, the least of all vectors of those remainders, times the size -/
def least (m k x : Int) : Int := min ((m - k) * x) (k * (m - x))
def bound (m k : Int) (g : List Int) : Int := (g.map (least m k)).sum
theorem bound_cons (m k x : Int) (g : List Int) : bound m k (x :: g) = least m k x + bound m k g := by unfold bound; rw [List.map_cons, List.sum_cons]
theorem least_le {m k : Int} (hm : 0 < m) (h0 : 0 ≤ k) (h1 : k ≤ m) (x : Int) : least m k (x % m) ≤ (m - k) * pos x + k * (pos x - x) := by
  have r0 := Int.emod_nonneg x (show m ≠ 0 by omega)
  have r1 := Int.emod_lt_of_pos x hm
  have e := Int.mul_ediv_add_emod x m
  unfold least pos
  by_cases hx : 0 ≤ x
  · rw [if_pos hx]
    have hq : 0 ≤ x / m := Int.ediv_nonneg hx (by omega)
    have hle : x % m ≤ x := by
      have : 0 ≤ m * (x / m) := Int.mul_nonneg (by omega) hq
      omega
    have h2 : (m - k) * (x % m) ≤ (m - k) * x := Int.mul_le_mul_of_nonneg_left hle (by omega)
    have h3 : k * (x - x) = 0 := by rw [Int.sub_self, Int.mul_zero]
    have := Int.min_le_left ((m - k) * (x % m)) (k * (m - x % m))
    omega
  · rw [if_neg hx]
    have hq : x / m ≤ -1 := by
      have : x / m < 0 := Int.ediv_neg_of_neg_of_pos (by omega) hm
      omega
    have hle : m - x % m ≤ 0 - x := by
      have : m * (x / m) ≤ m * (-1) := Int.mul_le_mul_of_nonneg_left hq (by omega)
      omega
    have h2 : k * (m - x % m) ≤ k * (0 - x) := Int.mul_le_mul_of_nonneg_left hle h0
    have h3 : (m - k) * 0 = 0 := Int.mul_zero _
    have := Int.min_le_right ((m - k) * (x % m)) (k * (m - x % m))
    omega
theorem bound_le {m k : Int} (hm : 0 < m) (h0 : 0 ≤ k) (h1 : k ≤ m) : ∀ d : List Int, bound m k (d.map (· % m)) ≤ (m - k) * cost d + k * (cost d - d.sum)
  | [] => by
    show (0 : Int) ≤ (m - k) * 0 + k * (0 - 0)
    rw [Int.mul_zero, Int.sub_zero, Int.mul_zero]; decide
  | x :: d => by
    have ih := bound_le hm h0 h1 d
    have a := least_le hm h0 h1 x
    rw [List.map_cons, bound_cons, cost_cons, List.sum_cons]
    have e1 : (m - k) * (pos x + cost d) = (m - k) * pos x + (m - k) * cost d := Int.mul_add _ _ _
    have e2 : k * (pos x + cost d - (x + d.sum)) = k * (pos x - x) + k * (cost d - d.sum) := by rw [← Int.mul_add]; congr 1; omega
    omega
/-- d is turned as r is, but for whole turns, and comes back to nought -/
def Sol (m : Int) (r d : List Int) : Prop := d.map (· % m) = r.map (· % m) ∧ d.sum = 0
/-- v is the fewest steps for the turns r -/
def Fewest (m : Int) (r : List Int) (v : Int) : Prop := (∃ d, Sol m r d ∧ cost d = v) ∧ ∀ d, Sol m r d → v ≤ cost d
theorem Fewest.uniq {m : Int} {r : List Int} {v w : Int} (a : Fewest m r v) (b : Fewest m r w) : v = w := by
  obtain ⟨⟨d, h1, h2⟩, h3⟩ := a
  obtain ⟨⟨e, k1, k2⟩, k3⟩ := b
  have := h3 e k1
  have := k3 d h1
  omega
/-- as few as a mark shows -/
theorem fewest_of {m k v : Int} {r d : List Int} (hm : 0 < m) (h0 : 0 ≤ k) (h1 : k ≤ m) (hd : Sol m r d) (hc : cost d ≤ v) (hb : m * v = bound m k (r.map (· % m))) : Fewest m r v ∧ cost d = v := by
  have low : ∀ e, Sol m r e → v ≤ cost e := by
    intro e he
    have a := bound_le hm h0 h1 e
    rw [he.1, he.2, ← hb] at a
    have e1 : (m - k) * cost e + k * (cost e - 0) = m * cost e := by rw [Int.sub_zero, ← Int.add_mul]; congr 1; omega
    rw [e1] at a
    exact Int.le_of_mul_le_mul_left a hm
  have ev : cost d = v := Int.le_antisymm hc (low d hd)
  exact ⟨⟨⟨d, hd, ev⟩, low⟩, ev⟩
theorem Fewest.nonneg {m : Int} {r : List Int} {v : Int} (a : Fewest m r v) : 0 ≤ v := by
  obtain ⟨⟨d, h1, h2⟩, h3⟩ := a
  rw [← h2]; exact cost_nonneg d
/-! ### remainders place by place -/
theorem mod_map_len {m : Int} {a b : List Int} (h : a.map (· % m) = b.map (· % m)) : a.length = b.length := by
  have := congrArg List.length h
  rw [List.length_map, List.length_map] at this
  exact this
theorem neg_mod {m x y : Int} (h : x % m = y % m) : (-x) % m = (-y) % m := by
  rw [Int.emod_eq_emod_iff_emod_sub_eq_zero] at h ⊢
  rw [show -x - -y = -(x - y) by omega]
  exact Int.emod_eq_zero_of_dvd (Int.dvd_neg.mpr (Int.dvd_of_emod_eq_zero h))
theorem add_mod {m x y z w : Int} (h : x % m = y % m) (k : z % m = w % m) : (x + z) % m = (y + w) % m := by
  rw [Int.add_emod, h, k, ← Int.add_emod]
theorem map_neg_mod {m : Int} : ∀ {a b : List Int}, a.map (· % m) = b.map (· % m) → (a.map fun x => -x).map (· % m) = (b.map fun x => -x).map (· % m)
  | [], [], _ => rfl
  | [], _ :: _, h => by simp at h
  | _ :: _, [], h => by simp at h
  | x :: a, y :: b, h => by
    simp only [List.map_cons, List.cons.injEq] at h ⊢
    exact ⟨neg_mod h.1, map_neg_mod h.2⟩
def vadd (a b : List Int) : List Int := List.zipWith (· + ·) a b
theorem vadd_mod {m : Int} : ∀ {a b c d : List Int}, a.map (· % m) = b.map (· % m) → c.map (· % m) = d.map (· % m) → (vadd a c).map (· % m) = (vadd b d).map (· % m)
  | [], [], _, _, _, _ => rfl
  | [], _ :: _, _, _, h, _ => by simp at h
  | _ :: _, [], _, _, h, _ => by simp at h
  | _ :: _, _ :: _, [], [], _, _ => rfl
  | _ :: _, _ :: _, [], _ :: _, _, h => by simp at h
  | _ :: _, _ :: _, _ :: _, [], _, h => by simp at h
  | x :: a, y :: b, z :: c, w :: d, h, k => by
    simp only [List.map_cons, List.cons.injEq] at h k
    unfold vadd
    simp only [List.zipWith_cons_cons, List.map_cons, List.cons.injEq]
    exact ⟨add_mod h.1 k.1, vadd_mod h.2 k.2⟩
theorem vadd_sum : ∀ {a c : List Int}, a.length = c.length → (vadd a c).sum = a.sum + c.sum
  | [], [], _ => rfl
  | [], _ :: _, h => by simp at h
  | _ :: _, [], h => by simp at h
  | x :: a, y :: c, h => by
    have ih := vadd_sum (a := a) (c := c) (by simpa using h)
    show ((x + y) :: vadd a c).sum = (x :: a).sum + (y :: c).sum
    rw [List.sum_cons, List.sum_cons, List.sum_cons, ih]; omega
theorem vadd_cost : ∀ {a c : List Int}, a.length = c.length → cost (vadd a c) ≤ cost a + cost c
  | [], [], _ => by decide
  | [], _ :: _, h => by simp at h
  | _ :: _, [], h => by simp at h
  | x :: a, y :: c, h => by
    have ih := vadd_cost (a := a) (c := c) (by simpa using h)
    show cost ((x + y) :: vadd a c) ≤ _
    rw [cost_cons, cost_cons, cost_cons]
    have := pos_add x y
    omega
/-! ### gaps -/
def diffs : List Int → List Int
  | x :: y :: r => (y - x) :: diffs (y :: r)
  | _ => []
def turns (a b : List Int) : List Int := [0] ++ List.zipWith (fun x y => y - x) a b ++ [0]
def raw (a b : List Int) : List Int := diffs (turns a b)
theorem diffs_length : ∀ l : List Int, (diffs l).length = l.length - 1
  | [] => rfl
  | [_] => rfl
  | x :: y :: r => by
    show (diffs (y :: r)).length + 1 = (y :: r).length + 1 - 1
    rw [diffs_length (y :: r)]
    show (r.length + 1 - 1) + 1 = r.length + 1 + 1 - 1
    omega
theorem turns_length {a b : List Int} (h : a.length = b.length) : (turns a b).length = a.length + 2 := by
  unfold turns
  rw [List.length_append, List.length_append, List.length_zipWith, h]
  simp; omega
theorem raw_length {a b : List Int} (h : a.length = b.length) : (raw a b).length = a.length + 1 := by
  unfold raw
  rw [diffs_length, turns_length h]; omega
theorem diffs_neg : ∀ l : List Int, diffs (l.map fun x => -x) = (diffs l).map fun x => -x
  | [] => rfl
  | [_] => rfl
  | x :: y :: r => by
    show (-y - -x) :: diffs ((y :: r).map fun x => -x) = -(y - x) :: (diffs (y :: r)).map fun x => -x
    rw [diffs_neg (y :: r)]; congr 1; omega
theorem diffs_add : ∀ {l t : List Int}, l.length = t.length → diffs (vadd l t) = vadd (diffs l) (diffs t)
  | [], [], _ => rfl
  | [], _ :: _, h => by simp at h
  | _ :: _, [], h => by simp at h
  | [_], [_], _ => rfl
  | [_], _ :: _ :: _, h => by simp at h
  | _ :: _ :: _, [_], h => by simp at h
  | x :: y :: r, u :: v :: w, h => by
    have ih := diffs_add (l := y :: r) (t := v :: w) (by simpa using h)
    show ((y + v) - (x + u)) :: diffs (vadd (y :: r) (v :: w)) = ((y - x) + (v - u)) :: vadd (diffs (y :: r)) (diffs (v :: w))
    rw [ih]; congr 1; omega
theorem diffs_snoc : ∀ (l : List Int) (x y : Int), diffs (l ++ [x, y]) = diffs (l ++ [x]) ++ [y - x]
  | [], x, y => rfl
  | [a], x, y => rfl
  | a :: b :: r, x, y => by
    show (b - a) :: diffs ((b :: r) ++ [x, y]) = (b - a) :: (diffs ((b :: r) ++ [x]) ++ [y - x])
    rw [diffs_snoc (b :: r) x y]
theorem diffs_reverse : ∀ l : List Int, diffs l.reverse = ((diffs l).map fun x => -x).reverse
  | [] => rfl
  | [_] => rfl
  | x :: y :: r => by
    have ih := diffs_reverse (y :: r)
    rw [List.reverse_cons, List.reverse_cons] at *
    rw [List.append_assoc]
    show diffs (r.reverse ++ [y, x]) = ((-(y - x)) :: (diffs (y :: r)).map fun x => -x).reverse
    rw [diffs_snoc, ih, List.reverse_cons]
    congr 2; omega
theorem diffs_mod {m : Int} : ∀ {l t : List Int}, l.map (· % m) = t.map (· % m) → (diffs l).map (· % m) = (diffs t).map (· % m)
  | [], [], _ => rfl
  | [], _ :: _, h => by simp at h
  | _ :: _, [], h => by simp at h
  | [_], [_], _ => rfl
  | [_], _ :: _ :: _, h => by simp at h
  | _ :: _ :: _, [_], h => by simp at h
  | x :: y :: r, u :: v :: w, h => by
    have h' : (y :: r).map (· % m) = (v :: w).map (· % m) := by
      simp only [List.map_cons, List.cons.injEq] at h ⊢
      exact h.2
    have ih := diffs_mod h'
    simp only [List.map_cons, List.cons.injEq] at h
    show ((y - x) % m) :: (diffs (y :: r)).map (· % m) = ((v - u) % m) :: (diffs (v :: w)).map (· % m)
    rw [ih]; congr 1
    rw [Int.sub_eq_add_neg, Int.sub_eq_add_neg]
    exact add_mod h.2.1 (neg_mod h.1)
theorem diffs_sum : ∀ (x : Int) (l : List Int) (z : Int), (diffs (x :: l ++ [z])).sum = z - x
  | x, [], z => by show ([z - x] : List Int).sum = z - x; simp
  | x, y :: l, z => by
    show ((y - x) :: diffs (y :: l ++ [z])).sum = z - x
    rw [List.sum_cons, diffs_sum y l z]; omega
theorem raw_sum (a b : List Int) : (raw a b).sum = 0 := by
  unfold raw turns
  rw [List.singleton_append, diffs_sum]; rfl
theorem turns_self (a : List Int) : turns a a = List.replicate (a.length + 2) 0 := by
  unfold turns
  have : List.zipWith (fun x y : Int => y - x) a a = List.replicate a.length 0 := by
    induction a with
    | nil => rfl
    | cons x r ih => rw [List.zipWith_cons_cons, ih, Int.sub_self, List.length_cons, List.replicate_succ]
  rw [this, List.singleton_append, ← List.replicate_succ]
  show _ ++ List.replicate 1 (0 : Int) = _
  rw [List.replicate_append_replicate]
theorem diffs_zeros : ∀ n : Nat, diffs (List.replicate (n + 1) 0) = List.replicate n 0
  | 0 => rfl
  | n + 1 => by
    show ((0 : Int) - 0) :: diffs (List.replicate (n + 1) 0) = _
    rw [diffs_zeros n]; rfl
theorem raw_self (a : List Int) : raw a a = List.replicate (a.length + 1) 0 := by
  unfold raw
  rw [turns_self, diffs_zeros]
theorem cost_zeros : ∀ n : Nat, cost (List.replicate n 0) = 0
  | 0 => rfl
  | n + 1 => by rw [List.replicate_succ, cost_cons, cost_zeros n]; rfl
theorem turns_swap (a b : List Int) : turns b a = (turns a b).map fun x => -x := by
  unfold turns
  have : ∀ a b : List Int, List.zipWith (fun x y : Int => y - x) b a = (List.zipWith (fun x y : Int => y - x) a b).map fun x => -x := by
    intro a
    induction a with
    | nil => intro b; simp
    | cons x r ih =>
      intro b
      cases b with
      | nil => simp
      | cons y t => simp only [List.zipWith_cons_cons, List.map_cons, ih t]; congr 1; omega
  rw [this]; simp
theorem turns_reverse {a b : List Int} (h : a.length = b.length) : turns a.reverse b.reverse = (turns a b).reverse := by
  unfold turns
  rw [← List.reverse_zipWith h]; simp
theorem turns_via {a b c : List Int} (h1 : a.length = b.length) (h2 : b.length = c.length) : turns a c = vadd (turns a b) (turns b c) := by
  have : ∀ a b c : List Int, a.length = b.length → b.length = c.length → List.zipWith (fun x y : Int => y - x) a c = vadd (List.zipWith (fun x y : Int => y - x) a b) (List.zipWith (fun x y : Int => y - x) b c) := by
    intro a
    induction a with
    | nil => intro b c _ _; simp [vadd]
    | cons x r ih =>
      intro b c h1 h2
      cases b with
      | nil => simp at h1
      | cons y s =>
        cases c with
        | nil => simp at h2
        | cons z t =>
          show (z - x) :: List.zipWith _ r t = ((y - x) + (z - y)) :: vadd (List.zipWith _ r s) (List.zipWith _ s t)
          rw [ih s t (by simpa using h1) (by simpa using h2)]; congr 1; omega
  unfold turns
  rw [this a b c h1 h2]
  unfold vadd
  rw [List.zipWith_append (by simp [List.length_zipWith, h1, h2]), List.zipWith_append (by simp)]
  rfl
theorem turns_shift {m k : Int} : ∀ {a b : List Int}, (turns (a.map fun x => (x + k) % m) (b.map fun x => (x + k) % m)).map (· % m) = (turns a b).map (· % m) := by
  intro a b
  have : ∀ a b : List Int, (List.zipWith (fun x y : Int => y - x) (a.map fun x => (x + k) % m) (b.map fun x => (x + k) % m)).map (· % m) = (List.zipWith (fun x y : Int => y - x) a b).map (· % m) := by
    intro a
    induction a with
    | nil => intro b; simp
    | cons x r ih =>
      intro b
      cases b with
      | nil => simp
      | cons y t =>
        simp only [List.map_cons, List.zipWith_cons_cons]
        rw [ih t]
        congr 1
        rw [← Int.sub_emod, show y + k - (x + k) = y - x by omega]
  unfold turns
  rw [List.map_append, List.map_append, this, List.map_append, List.map_append]
/-! ### what holds of the fewest steps -/
section
variable {m : Int} {a b c : List Int} {v w u : Int}
theorem few_self (a : List Int) : Fewest m (raw a a) 0 := by
  refine ⟨⟨raw a a, ⟨rfl, raw_sum a a⟩, ?_⟩, fun d _ => cost_nonneg d⟩
  rw [raw_self, cost_zeros]
theorem few_swap (h : Fewest m (raw a b) v) : Fewest m (raw b a) v := by
  have sw : ∀ (a b d : List Int), Sol m (raw a b) d → Sol m (raw b a) (d.map fun x => -x) ∧ cost (d.map fun x => -x) = cost d := by
    intro a b d hd
    refine ⟨⟨?_, by rw [sumI_neg, hd.2]; rfl⟩, by rw [cost_neg, hd.2]; omega⟩
    unfold raw
    rw [turns_swap a b, diffs_neg]
    exact map_neg_mod hd.1
  obtain ⟨⟨d, h1, h2⟩, h3⟩ := h
  refine ⟨⟨_, (sw a b d h1).1, by rw [(sw a b d h1).2, h2]⟩, fun e he => ?_⟩
  have := h3 _ (sw b a e he).1
  rw [(sw b a e he).2] at this
  exact this
theorem few_reverse (hl : a.length = b.length) (h : Fewest m (raw a b) v) : Fewest m (raw a.reverse b.reverse) v := by
  have sw : ∀ (a b d : List Int), a.length = b.length → Sol m (raw a b) d → Sol m (raw a.reverse b.reverse) (d.map fun x => -x).reverse ∧ cost (d.map fun x => -x).reverse = cost d := by
    intro a b d hl hd
    refine ⟨⟨?_, by rw [sumI_reverse, sumI_neg, hd.2]; rfl⟩, by rw [cost_reverse, cost_neg, hd.2]; omega⟩
    unfold raw
    rw [turns_reverse hl, diffs_reverse, List.map_reverse, List.map_reverse]
    exact congrArg List.reverse (map_neg_mod hd.1)
  obtain ⟨⟨d, h1, h2⟩, h3⟩ := h
  refine ⟨⟨_, (sw a b d hl h1).1, by rw [(sw a b d hl h1).2, h2]⟩, fun e he => ?_⟩
  have q := sw a.reverse b.reverse e (by simp [hl]) he
  rw [List.reverse_reverse, List.reverse_reverse] at q
  have := h3 _ q.1
  rw [q.2] at this
  exact this
theorem few_mod {r s : List Int} (e : r.map (· % m) = s.map (· % m)) (h : Fewest m r v) : Fewest m s v := by
  obtain ⟨⟨d, h1, h2⟩, h3⟩ := h
  exact ⟨⟨d, ⟨h1.1.trans e, h1.2⟩, h2⟩, fun x hx => h3 x ⟨hx.1.trans e.symm, hx.2⟩⟩
theorem few_shift {k : Int} (h : Fewest m (raw a b) v) : Fewest m (raw (a.map fun x => (x + k) % m) (b.map fun x => (x + k) % m)) v :=
  few_mod (diffs_mod turns_shift).symm h
theorem few_tri (h1 : a.length = b.length) (h2 : b.length = c.length) (hab : Fewest m (raw a b) v) (hbc : Fewest m (raw b c) w) (hac : Fewest m (raw a c) u) : u ≤ v + w := by
  obtain ⟨⟨d, k1, k2⟩, _⟩ := hab
  obtain ⟨⟨e, l1, l2⟩, _⟩ := hbc
  have hd := mod_map_len k1.1
  have he := mod_map_len l1.1
  rw [raw_length h1] at hd
  rw [raw_length h2] at he
  have hl : d.length = e.length := by omega
  have q := hac.2 (vadd d e) ⟨?_, by rw [vadd_sum hl, k1.2, l1.2]; rfl⟩
  · have := vadd_cost hl
    omega
  · unfold raw
    rw [turns_via h1 h2, diffs_add (by rw [turns_length h1, turns_length h2, h1])]
    exact vadd_mod k1.1 l1.1
theorem few_tail {x y : Int} (hab : Fewest m (raw (x :: a) (y :: b)) v) (ht : Fewest m (raw a b) w) : w ≤ v := by
  obtain ⟨⟨d, k1, k2⟩, _⟩ := hab
  -- the first two gaps are put together
  obtain ⟨p, q, r, e⟩ : ∃ p q r, turns a b = 0 :: p :: r ∧ turns (x :: a) (y :: b) = 0 :: (y - x) :: p :: r ∧ q = (0 : Int) := by
    unfold turns
    cases a with
    | nil => exact ⟨0, 0, [], rfl, rfl, rfl⟩
    | cons x2 a2 =>
      cases b with
      | nil => exact ⟨0, 0, [], rfl, rfl, rfl⟩
      | cons y2 b2 => exact ⟨y2 - x2, 0, _, rfl, rfl, rfl⟩
  obtain ⟨e1, e2, _⟩ := e
  have f1 : raw (x :: a) (y :: b) = (y - x - 0) :: (p - (y - x)) :: diffs (p :: r) := by unfold raw; rw [e2]; rfl
  have f2 : raw a b = (p - 0) :: diffs (p :: r) := by unfold raw; rw [e1]; rfl
  rw [f1] at k1
  rw [f2] at ht
  obtain ⟨g1, g2⟩ := k1
  match d, g1, g2, k2 with
  | [], g1, _, _ => simp at g1
  | [_], g1, _, _ => simp at g1
  | d0 :: d1 :: dr, g1, g2, k2 =>
    simp only [List.map_cons, List.cons.injEq] at g1
    have q := ht.2 ((d0 + d1) :: dr) ⟨?_, ?_⟩
    · rw [cost_cons] at q
      rw [cost_cons, cost_cons] at k2
      have := pos_add d0 d1
      omega
    · simp only [List.map_cons, List.cons.injEq]
      refine ⟨?_, g1.2.2⟩
      rw [add_mod g1.1 g1.2.1]; congr 1; omega
    · rw [List.sum_cons] at g2 ⊢
      rw [List.sum_cons] at g2
      omega
theorem few_zero (hm : 0 < m) (ha : RowOk m a) (hb : RowOk m b) (hl : a.length = b.length) (h : Fewest m (raw a b) 0) : a = b := by
  obtain ⟨⟨d, h1, h2⟩, h3⟩ := h
  clear h3
  have z := cost_zero h2 h1.2
  have z2 : ∀ x ∈ raw a b, x % m = 0 := by
    intro x hx
    have : x % m ∈ d.map (· % m) := by rw [h1.1]; exact List.mem_map_of_mem hx
    obtain ⟨y, hy, e⟩ := List.mem_map.mp this
    rw [← e, z y hy, Int.zero_emod]
  have key : ∀ (l : List Int) (x : Int), (∀ y ∈ diffs (x :: l), y % m = 0) → ∀ y ∈ l, y % m = x % m := by
    intro l
    induction l with
    | nil => intro x _ y hy; cases hy
    | cons u r ih =>
      intro x hx y hy
      have h0 : (u - x) % m = 0 := hx (u - x) List.mem_cons_self
      have h1 : u % m = x % m := Int.emod_eq_emod_iff_emod_sub_eq_zero.mpr h0
      rcases List.mem_cons.mp hy with e | e
      · rw [e, h1]
      · rw [← h1]
        exact ih u (fun y hy => hx y (List.mem_cons_of_mem _ hy)) y e
  have z3 : ∀ y ∈ List.zipWith (fun x y : Int => y - x) a b, y % m = 0 := by
    intro y hy
    have e : turns a b = 0 :: (List.zipWith (fun x y : Int => y - x) a b ++ [0]) := rfl
    unfold raw at z2
    rw [e] at z2
    have := key (List.zipWith (fun x y : Int => y - x) a b ++ [0]) 0 z2 y (List.mem_append_left _ hy)
    rw [this, Int.zero_emod]
  clear z2 z h1 h2 key
  induction a generalizing b with
  | nil => cases b with
    | nil => rfl
    | cons _ _ => simp at hl
  | cons x r ih =>
    cases b with
    | nil => simp at hl
    | cons y t =>
      have e : (y - x) % m = 0 := z3 _ (by rw [List.zipWith_cons_cons]; exact List.mem_cons_self)
      have hx := ha x List.mem_cons_self
      have hy := hb y List.mem_cons_self
      have e2 : y % m = x % m := Int.emod_eq_emod_iff_emod_sub_eq_zero.mpr e
      rw [Int.emod_eq_of_lt hx.1 hx.2, Int.emod_eq_of_lt hy.1 hy.2] at e2
      rw [e2, ih (fun z hz => ha z (List.mem_cons_of_mem _ hz)) (fun z hz => hb z (List.mem_cons_of_mem _ hz)) (by simpa using hl) fun z hz => z3 z (by rw [List.zipWith_cons_cons]; exact List.mem_cons_of_mem _ hz)]
end
end DR
namespace DR
/-! ### all dials to one figure -/
def lastOf : Int → List Int → Int
  | x, [] => x
  | _, y :: r => lastOf y r
def mid (x : Int) (r : List Int) : List Int := diffs ((x :: r).map fun x => -x)
theorem diffs_to (c : Int) : ∀ (r : List Int) (x : Int), diffs (((x :: r).map fun y => c - y) ++ [0]) = mid x r ++ [lastOf x r - c]
  | [], x => by
    show [0 - (c - x)] = [x - c]
    congr 1; omega
  | y :: r, x => by
    show ((c - y) - (c - x)) :: diffs (((y :: r).map fun y => c - y) ++ [0]) = ((-y - -x) :: mid y r) ++ [lastOf y r - c]
    rw [diffs_to c r y, List.cons_append]; congr 1; omega
theorem zip_rep (c : Int) : ∀ a : List Int, List.zipWith (fun x y : Int => y - x) a (List.replicate a.length c) = a.map fun y => c - y
  | [] => rfl
  | x :: r => by
    rw [List.length_cons, List.replicate_succ, List.zipWith_cons_cons, zip_rep c r]; rfl
theorem raw_to (c x : Int) (r : List Int) : raw (x :: r) (List.replicate (x :: r).length c) = (c - x) :: (mid x r ++ [lastOf x r - c]) := by
  unfold raw turns
  rw [zip_rep]
  show (c - x - 0) :: diffs (((x :: r).map fun y => c - y) ++ [0]) = _
  rw [diffs_to, Int.sub_zero]
theorem map_snoc {m : Int} {e t : List Int} {z : Int} (h : e.map (· % m) = (t ++ [z]).map (· % m)) : ∃ e1 el, e = e1 ++ [el] ∧ e1.map (· % m) = t.map (· % m) ∧ el % m = z % m := by
  have hl := mod_map_len h
  rw [List.length_append, List.length_singleton] at hl
  have hne : e ≠ [] := by intro q; rw [q] at hl; simp at hl
  refine ⟨e.dropLast, e.getLast hne, (List.dropLast_concat_getLast hne).symm, ?_⟩
  rw [← List.dropLast_concat_getLast hne, List.map_append, List.map_append] at h
  have := List.append_inj' h (by simp)
  exact ⟨this.1, by simpa using this.2⟩
theorem few_level {m x y v w : Int} {r : List Int} (h : Fewest m (raw (x :: r) (List.replicate (x :: r).length x)) v) (k : Fewest m (raw (x :: r) (List.replicate (x :: r).length y)) w) : v ≤ w := by
  rw [raw_to] at h k
  obtain ⟨⟨d, k1, k2⟩, _⟩ := k
  obtain ⟨g1, g2⟩ := k1
  match d, g1, g2, k2 with
  | [], g1, _, _ => simp at g1
  | d0 :: e, g1, g2, k2 =>
    simp only [List.map_cons, List.cons.injEq] at g1
    obtain ⟨e1, el, rfl, f1, f2⟩ := map_snoc g1.2
    have q := h.2 (0 :: (e1 ++ [d0 + el])) ⟨?_, ?_⟩
    · rw [cost_cons, cost_append, cost_cons] at q
      rw [cost_cons, cost_append, cost_cons] at k2
      have := pos_add d0 el
      have z : pos 0 = 0 := rfl
      omega
    · simp only [List.map_cons, List.map_append, List.cons.injEq]
      refine ⟨by rw [Int.sub_self], ?_⟩
      rw [f1]
      congr 1
      show [(d0 + el) % m] = [(lastOf x r - x) % m]
      rw [add_mod g1.1 f2]; congr 2; omega
    · rw [List.sum_cons, sumI_append, List.sum_cons] at g2 ⊢
      simp only [List.sum_nil] at g2 ⊢
      omega
/-- the row turned by a number: as many steps to its first figure -/
theorem few_level_shift {m k v : Int} {a : List Int} {c : Int} (h : Fewest m (raw a (List.replicate a.length c)) v) :
    Fewest m (raw (a.map fun x => (x + k) % m) (List.replicate a.length ((c + k) % m))) v := by
  have := few_shift (k := k) h
  rw [List.map_replicate] at this
  exact this
/-! ### deeds and their turns -/
def ab (x : Int) : Int := if x < 0 then -x else x
def steps (ds : List Deed) : Int := (ds.map fun d => ab d.2.2).sum
theorem steps_cons (d : Deed) (ds : List Deed) : steps (d :: ds) = ab d.2.2 + steps ds := by unfold steps; rw [List.map_cons, List.sum_cons]
def covers (n : Nat) (ds : List Deed) : List Int := (List.range (n + 2)).map fun i : Nat => cover ds ((i : Int) - 1)
theorem covers_length (n : Nat) (ds : List Deed) : (covers n ds).length = n + 2 := by unfold covers; rw [List.length_map, List.length_range]
theorem vadd_map {α : Type} (f g : α → Int) : ∀ l : List α, vadd (l.map f) (l.map g) = l.map fun i => f i + g i
  | [] => rfl
  | x :: r => by
    show (f x + g x) :: vadd (r.map f) (r.map g) = _
    rw [vadd_map f g r]; rfl
theorem covers_cons (n : Nat) (d : Deed) (ds : List Deed) : covers n (d :: ds) = vadd (covers n [d]) (covers n ds) := by
  unfold covers
  rw [vadd_map]
  refine List.map_congr_left fun i _ => ?_
  show (if _ then _ else _) + cover ds _ = ((if _ then _ else _) + 0) + cover ds _
  rw [Int.add_zero]
theorem covers_snoc (n : Nat) (ds : List Deed) : covers (n + 1) ds = covers n ds ++ [cover ds ((n : Int) + 1)] := by
  unfold covers
  rw [List.range_succ, List.map_append]
  show _ ++ [cover ds (((n + 2 : Nat) : Int) - 1)] = _
  congr 3; omega
theorem diffs_snoc2 {l : List Int} {x y : Int} : diffs (l ++ [x] ++ [y]) = diffs (l ++ [x]) ++ [y - x] := by
  rw [List.append_assoc]
  exact diffs_snoc l x y
theorem diffs_covers_snoc (n : Nat) (ds : List Deed) : diffs (covers (n + 1) ds) = diffs (covers n ds) ++ [cover ds ((n : Int) + 1) - cover ds (n : Int)] := by
  rw [covers_snoc]
  have : ∃ l, covers n ds = l ++ [cover ds (n : Int)] := by
    cases n with
    | zero => exact ⟨[cover ds (-1)], rfl⟩
    | succ k => exact ⟨_, by rw [covers_snoc]; congr 3⟩
  obtain ⟨l, e⟩ := this
  rw [e, diffs_snoc2]
theorem covers_sum (ds : List Deed) : ∀ n : Nat, (diffs (covers n ds)).sum = cover ds (n : Int) - cover ds (-1)
  | 0 => by
    show ([cover ds 0 - cover ds (-1)] : List Int).sum = _
    simp
  | n + 1 => by
    rw [diffs_covers_snoc, sumI_append, covers_sum ds n]
    simp only [List.sum_cons, List.sum_nil]
    have : ((n + 1 : Nat) : Int) = (n : Int) + 1 := rfl
    rw [this]; omega
/-- one deed: forth at its dial, back at its end -/
theorem cost_one {d : Deed} (h : d.1 < d.2.1) (h0 : 0 ≤ d.1) : ∀ n : Nat, cost (diffs (covers n [d])) = (if d.1 ≤ (n : Int) then pos d.2.2 else 0) + (if d.2.1 ≤ (n : Int) then pos (-d.2.2) else 0)
  | 0 => by
    show cost [cover [d] 0 - cover [d] (-1)] = _
    have e : cover [d] (-1) = 0 := by
      show (if d.1 ≤ (-1 : Int) ∧ (-1 : Int) < d.2.1 then d.2.2 else 0) + 0 = 0
      rw [if_neg (by omega)]; rfl
    have e2 : cover [d] 0 = if d.1 ≤ (0 : Int) ∧ (0 : Int) < d.2.1 then d.2.2 else 0 := by
      show (if d.1 ≤ (0 : Int) ∧ (0 : Int) < d.2.1 then d.2.2 else 0) + 0 = _
      omega
    rw [e, e2, cost_cons, Int.sub_zero]
    show pos _ + 0 = _
    by_cases c : d.1 ≤ (0 : Int)
    · rw [if_pos ⟨c, by omega⟩, if_pos (show d.1 ≤ ((0 : Nat) : Int) from c), if_neg (show ¬ d.2.1 ≤ ((0 : Nat) : Int) by omega)]
    · rw [if_neg (fun z => c z.1), if_neg (show ¬ d.1 ≤ ((0 : Nat) : Int) from c), if_neg (show ¬ d.2.1 ≤ ((0 : Nat) : Int) by omega)]; rfl
  | n + 1 => by
    rw [diffs_covers_snoc, cost_append, cost_one h h0 n, cost_cons]
    show _ + (pos (((if d.1 ≤ ((n : Int) + 1) ∧ ((n : Int) + 1) < d.2.1 then d.2.2 else 0) + 0) - ((if d.1 ≤ (n : Int) ∧ (n : Int) < d.2.1 then d.2.2 else 0) + 0)) + 0) = _
    have e : ((n + 1 : Nat) : Int) = (n : Int) + 1 := rfl
    rw [e]
    have z : pos 0 = 0 := rfl
    by_cases c1 : d.1 ≤ (n : Int)
    · rw [if_pos c1, if_pos (show d.1 ≤ (n : Int) + 1 by omega)]
      by_cases c2 : d.2.1 ≤ (n : Int)
      · rw [if_pos c2, if_pos (show d.2.1 ≤ (n : Int) + 1 by omega), if_neg (by omega), if_neg (by omega)]
        show _ + (pos 0 + 0) = _
        rw [z]; omega
      · rw [if_neg c2, if_pos (show d.1 ≤ (n : Int) ∧ (n : Int) < d.2.1 by omega)]
        by_cases c3 : d.2.1 ≤ (n : Int) + 1
        · rw [if_pos c3, if_neg (by omega)]
          rw [show (0 + 0 - (d.2.2 + 0) : Int) = -d.2.2 by omega]; omega
        · rw [if_neg c3, if_pos (by omega)]
          rw [show (d.2.2 + 0 - (d.2.2 + 0) : Int) = 0 by omega, z]; omega
    · rw [if_neg c1, if_neg (show ¬ d.2.1 ≤ (n : Int) by omega), if_neg (show ¬ (d.1 ≤ (n : Int) ∧ (n : Int) < d.2.1) by omega)]
      rw [if_neg (show ¬ d.2.1 ≤ (n : Int) + 1 by omega)]
      by_cases c3 : d.1 ≤ (n : Int) + 1
      · rw [if_pos c3, if_pos (by omega)]
        rw [show (d.2.2 + 0 - (0 + 0) : Int) = d.2.2 by omega]; omega
      · rw [if_neg c3, if_neg (by omega)]
        show _ + (pos 0 + 0) = _
        rw [z]; omega
theorem pos_ab (x : Int) : pos x + pos (-x) = ab x := by unfold pos ab; split <;> split <;> split <;> omega
theorem cost_covers {n : Nat} : ∀ {ds : List Deed}, DeedsOk n ds → cost (diffs (covers n ds)) ≤ steps ds
  | [], _ => by
    have e : covers n [] = List.replicate (n + 2) 0 := by
      unfold covers
      refine List.ext_getElem? fun i => ?_
      rw [List.getElem?_map, List.getElem?_replicate]
      by_cases h : i < n + 2
      · rw [if_pos h, List.getElem?_range h]; rfl
      · rw [if_neg h, List.getElem?_eq_none (by rw [List.length_range]; omega)]; rfl
    rw [e, diffs_zeros, cost_zeros]
    exact Int.le_refl _
  | d :: r, h => by
    have ih := cost_covers (ds := r) (fun x hx => h x (List.mem_cons_of_mem _ hx))
    obtain ⟨h1, h2, h3, h4⟩ := h d List.mem_cons_self
    rw [covers_cons, diffs_add (by rw [covers_length, covers_length]), steps_cons]
    have q := vadd_cost (a := diffs (covers n [d])) (c := diffs (covers n r)) (by rw [diffs_length, diffs_length, covers_length, covers_length])
    rw [cost_one h2 h1 n, if_pos (by omega), if_pos (by omega), pos_ab] at q
    omega
theorem cover_out {n : Nat} : ∀ {ds : List Deed}, DeedsOk n ds → cover ds (-1) = 0 ∧ cover ds (n : Int) = 0
  | [], _ => ⟨rfl, rfl⟩
  | d :: r, h => by
    have ih := cover_out (ds := r) (fun x hx => h x (List.mem_cons_of_mem _ hx))
    obtain ⟨h1, h2, h3, h4⟩ := h d List.mem_cons_self
    constructor
    · show (if _ then _ else _) + cover r (-1) = 0
      rw [ih.1, if_neg (by omega)]; rfl
    · show (if _ then _ else _) + cover r (n : Int) = 0
      rw [ih.2, if_neg (by omega)]; rfl
/-- deeds that turn a row into another turn it as the gaps say -/
theorem covers_mod {m : Int} {a b : List Int} {ds : List Deed} (hok : DeedsOk a.length ds) (hb : behind m a ds = b) : (covers a.length ds).map (· % m) = (turns a b).map (· % m) := by
  have hl : a.length = b.length := by rw [← hb, behind_length]
  obtain ⟨z1, z2⟩ := cover_out hok
  refine List.ext_getElem? fun i => ?_
  rw [List.getElem?_map, List.getElem?_map]
  have ec : (covers a.length ds)[i]? = if i < a.length + 2 then some (cover ds ((i : Int) - 1)) else none := by
    unfold covers
    rw [List.getElem?_map]
    by_cases h : i < a.length + 2
    · rw [if_pos h, List.getElem?_range h]; rfl
    · rw [if_neg h, List.getElem?_eq_none (by rw [List.length_range]; omega)]; rfl
  rw [ec]
  have hz : (List.zipWith (fun x y : Int => y - x) a b).length = a.length := by rw [List.length_zipWith, hl]; exact Nat.min_self _
  unfold turns
  cases i with
  | zero =>
    rw [if_pos (by omega)]
    show some (cover ds (-1) % m) = some (0 % m)
    rw [z1]
  | succ j =>
    rw [List.append_assoc, List.singleton_append, List.getElem?_cons_succ]
    by_cases h1 : j < a.length
    · rw [if_pos (by omega), List.getElem?_append_left (by omega), List.getElem?_zipWith]
      have ea := List.getElem?_eq_getElem h1
      have eb : b[j]? = some ((a[j] + cover ds (j : Int)) % m) := by rw [← hb, behind_get, ea]; rfl
      rw [ea, eb]
      show some (cover ds (((j + 1 : Nat) : Int) - 1) % m) = some (((a[j] + cover ds (j : Int)) % m - a[j]) % m)
      rw [show ((j + 1 : Nat) : Int) - 1 = (j : Int) by omega, Int.emod_sub_emod]
      congr 2; omega
    · rw [List.getElem?_append_right (by omega), hz]
      by_cases h2 : j = a.length
      · subst h2
        rw [if_pos (by omega), Nat.sub_self]
        show some (cover ds (((a.length + 1 : Nat) : Int) - 1) % m) = some (0 % m)
        rw [show ((a.length + 1 : Nat) : Int) - 1 = (a.length : Int) by omega, z2]
      · rw [if_neg (by omega)]
        obtain ⟨k, hk⟩ : ∃ k, j - a.length = k + 1 := ⟨j - a.length - 1, by omega⟩
        rw [hk]; rfl
theorem deeds_sol {m : Int} {a b : List Int} {ds : List Deed} (hok : DeedsOk a.length ds) (hb : behind m a ds = b) : Sol m (raw a b) (diffs (covers a.length ds)) := by
  refine ⟨diffs_mod (covers_mod hok hb), ?_⟩
  obtain ⟨z1, z2⟩ := cover_out hok
  rw [covers_sum, z1, z2]; rfl
/-- what the law asks of deeds and a mark -/
def Right (m : Int) (a b : List Int) (ds : List Deed) (k : Int) : Prop := DeedsOk a.length ds ∧ behind m a ds = b ∧ 0 ≤ k ∧ k ≤ m ∧ m * steps ds = bound m k ((raw a b).map (· % m))
instance (n : Int) (d : Deed) : Decidable (DeedOk n d) := by unfold DeedOk; infer_instance
instance (n : Int) (ds : List Deed) : Decidable (DeedsOk n ds) := by unfold DeedsOk; infer_instance
instance (m : Int) (a b : List Int) (ds : List Deed) (k : Int) : Decidable (Right m a b ds k) := by unfold Right; infer_instance
theorem Right.fewest {m : Int} {a b : List Int} {ds : List Deed} {k : Int} (hm : 0 < m) (h : Right m a b ds k) : Fewest m (raw a b) (steps ds) := by
  obtain ⟨h1, h2, h3, h4, h5⟩ := h
  exact (fewest_of hm h3 h4 (deeds_sol h1 h2) (cost_covers h1) h5).1
end DR
namespace DR
/-! ### a walk from row to row, step by step -/
theorem steps_append (a b : List Deed) : steps (a ++ b) = steps a + steps b := by unfold steps; rw [List.map_append, sumI_append]
/-- a deed of one step -/
def UnitOk (n : Int) (u : Deed) : Prop := 0 ≤ u.1 ∧ u.1 < u.2.1 ∧ u.2.1 ≤ n ∧ (u.2.2 = 1 ∨ u.2.2 = -1)
theorem UnitOk.deed {n : Int} {u : Deed} (h : UnitOk n u) : DeedOk n u := ⟨h.1, h.2.1, h.2.2.1, by rcases h.2.2.2 with e | e <;> rw [e] <;> decide⟩
theorem cover_rep (f e s : Int) (i : Int) : ∀ k : Nat, cover (List.replicate k (f, e, s)) i = k * (if f ≤ i ∧ i < e then s else 0)
  | 0 => by
    show (0 : Int) = ((0 : Nat) : Int) * _
    rw [Int.natCast_zero, Int.zero_mul]
  | k + 1 => by
    rw [List.replicate_succ]
    show (if f ≤ i ∧ i < e then s else 0) + cover (List.replicate k (f, e, s)) i = _
    rw [cover_rep f e s i k, Int.natCast_add, Int.add_mul]
    show _ = _ + 1 * _
    rw [Int.one_mul]; omega
/-- each deed, step by step -/
theorem units_of {n : Int} : ∀ {ds : List Deed}, DeedsOk n ds → ∃ us : List Deed, (∀ u ∈ us, UnitOk n u) ∧ (∀ i, cover us i = cover ds i) ∧ (us.length : Int) = steps ds
  | [], _ => ⟨[], fun u hu => (nomatch hu), fun _ => rfl, rfl⟩
  | (f, e, s) :: r, h => by
    obtain ⟨us, h1, h2, h3⟩ := units_of (ds := r) (fun x hx => h x (List.mem_cons_of_mem _ hx))
    obtain ⟨g1, g2, g3, g4⟩ := h (f, e, s) List.mem_cons_self
    refine ⟨List.replicate s.natAbs (f, e, if 0 < s then 1 else -1) ++ us, ?_, ?_, ?_⟩
    · intro u hu
      rcases List.mem_append.mp hu with q | q
      · rw [List.eq_of_mem_replicate q]
        refine ⟨g1, g2, g3, ?_⟩
        show (if 0 < s then (1 : Int) else -1) = 1 ∨ (if 0 < s then (1 : Int) else -1) = -1
        split
        · exact .inl rfl
        · exact .inr rfl
      · exact h1 u q
    · intro i
      rw [cover_append, cover_rep, h2]
      show _ = (if f ≤ i ∧ i < e then s else 0) + cover r i
      congr 1
      by_cases c : f ≤ i ∧ i < e
      · rw [if_pos c, if_pos c]
        split
        · rw [Int.mul_one]; omega
        · rw [Int.mul_neg, Int.mul_one]
          have : s ≠ 0 := g4
          omega
      · rw [if_neg c, if_neg c, Int.mul_zero]
    · rw [List.length_append, List.length_replicate, steps_cons]
      have : ab s = (s.natAbs : Int) := by unfold ab; split <;> omega
      show ((s.natAbs + us.length : Nat) : Int) = ab s + steps r
      rw [this, ← h3]; omega
/-- rows met, with the steps taken -/
abbrev Met := List (List Int × Int)
def Has (es : Met) (y : List Int) (k : Int) : Prop := ∃ c, (y, c) ∈ es ∧ c ≤ k
theorem Has.more {es fs : Met} {y : List Int} {k : Int} (h : Has es y k) : Has (es ++ fs) y k := by
  obtain ⟨c, h1, h2⟩ := h
  exact ⟨c, List.mem_append_left _ h1, h2⟩
def Reach (n : Int) (start y : List Int) (c : Int) : Prop := ∃ us, DeedsOk start.length us ∧ behind n start us = y ∧ steps us = c
/-- all steps from row, cost c, are met -/
def AllF (n : Int) (es : Met) (row : List Int) (c : Int) (f : Nat) : Prop := ∀ u, UnitOk row.length u → u.1 < f → Has es (behind n row [u]) (c + 1)
def AllE (n : Int) (es : Met) (row : List Int) (c : Int) (f e : Nat) : Prop := ∀ u, UnitOk row.length u → u.1 = f → u.2.1 < e → Has es (behind n row [u]) (c + 1)
structure Walked (n : Int) (start : List Int) (es : Met) (at' : Nat) : Prop where
  nd : (es.map (·.1)).Nodup
  st : es[0]? = some (start, 0)
  path : ∀ e ∈ es, Reach n start e.1 e.2
  mono : ∀ (i j : Nat) (x y : List Int × Int), es[i]? = some x → es[j]? = some y → i ≤ j → x.2 ≤ y.2
  near : ∀ (x e : List Int × Int), es[at']? = some x → e ∈ es → e.2 ≤ x.2 + 1
  done : ∀ (j : Nat) (x : List Int × Int), j < at' → es[j]? = some x → AllF n es x.1 x.2 start.length
theorem Walked.start {n : Int} (s : List Int) (hr : RowOk n s) : Walked n s [(s, 0)] 0 := by
  refine ⟨by simp, rfl, fun e he => ?_, fun i j x y hi hj _ => ?_, fun x e hx he => ?_, fun j x hj _ => absurd hj (Nat.not_lt_zero _)⟩
  · rw [List.mem_singleton.mp he]
    exact ⟨[], fun d hd => (nomatch hd), behind_nil hr, rfl⟩
  · match i, j, hi, hj with
    | 0, 0, hi, hj =>
      rw [← Option.some.inj hi, ← Option.some.inj hj]
      exact Int.le_refl _
    | i + 1, _, hi, _ => simp at hi
    | 0, j + 1, _, hj => simp at hj
  · rw [← Option.some.inj hx, List.mem_singleton.mp he]
    show (0 : Int) ≤ 0 + 1
    decide
/-- the row in turn is done -/
theorem Walked.next {n : Int} {s : List Int} {es : Met} {k : Nat} {x : List Int × Int} (h : Walked n s es k) (hx : es[k]? = some x) (hd : AllF n es x.1 x.2 s.length) : Walked n s es (k + 1) := by
  refine ⟨h.nd, h.st, h.path, h.mono, fun y e hy he => ?_, fun j y hj hy => ?_⟩
  · have := h.near x e hx he
    have := h.mono k (k + 1) x y hx hy (by omega)
    omega
  · by_cases e : j = k
    · subst e
      rw [hx] at hy
      have := Option.some.inj hy
      subst this
      exact hd
    · exact h.done j y (by omega) hy
/-- a row is met for the first time -/
theorem Walked.add {n : Int} {s : List Int} {es : Met} {k : Nat} {x : List Int × Int} {u : Deed} (h : Walked n s es k) (hx : es[k]? = some x) (hu : UnitOk s.length u) (hnew : ∀ c, (behind n x.1 [u], c) ∉ es) :
    Walked n s (es ++ [(behind n x.1 [u], x.2 + 1)]) k := by
  have hk := (List.getElem?_eq_some_iff.mp hx).1
  have hxm := List.mem_of_getElem? hx
  have old : ∀ {i : Nat} {z : List Int × Int}, i < es.length → (es ++ [(behind n x.1 [u], x.2 + 1)])[i]? = some z → es[i]? = some z := fun {i z} hi e => by rw [List.getElem?_append_left hi] at e; exact e
  have last : ∀ {i : Nat} {z : List Int × Int}, ¬ i < es.length → (es ++ [(behind n x.1 [u], x.2 + 1)])[i]? = some z → z = (behind n x.1 [u], x.2 + 1) := fun {i z} hi e => by
    rw [List.getElem?_append_right (by omega)] at e
    have : i - es.length = 0 := by
      have := (List.getElem?_eq_some_iff.mp e).1
      simp at this
      omega
    rw [this] at e
    exact (Option.some.inj e).symm
  refine ⟨?_, ?_, fun e he => ?_, fun i j y z hi hj hij => ?_, fun y e hy he => ?_, fun j y hj hy => ?_⟩
  · rw [List.map_append]
    refine List.nodup_append.mpr ⟨h.nd, by simp, ?_⟩
    intro a ha b hb e
    have : b = behind n x.1 [u] := by simpa using hb
    subst this
    subst e
    obtain ⟨z, hz, e2⟩ := List.mem_map.mp ha
    exact hnew z.2 (by rw [← e2]; exact hz)
  · rw [List.getElem?_append_left (by omega)]; exact h.st
  · rcases List.mem_append.mp he with q | q
    · exact h.path e q
    · rw [List.mem_singleton.mp q]
      obtain ⟨us, p1, p2, p3⟩ := h.path x hxm
      refine ⟨us ++ [u], fun d hd => ?_, ?_, ?_⟩
      · rcases List.mem_append.mp hd with r | r
        · exact p1 d r
        · rw [List.mem_singleton.mp r]; exact hu.deed
      · rw [← behind_behind, p2]
      · rw [steps_append, p3, steps_cons]
        have : ab u.2.2 = 1 := by rcases hu.2.2.2 with e | e <;> rw [e] <;> decide
        rw [this]; rfl
  · by_cases h1 : i < es.length
    · by_cases h2 : j < es.length
      · exact h.mono i j y z (old h1 hi) (old h2 hj) hij
      · rw [last h2 hj]
        exact h.near x y hx (List.mem_of_getElem? (old h1 hi))
    · rw [last h1 hi, last (by omega) hj]
      exact Int.le_refl _
  · have e1 := old hk hy
    rw [hx] at e1
    have e2 := Option.some.inj e1
    subst e2
    rcases List.mem_append.mp he with q | q
    · exact h.near x e hx q
    · rw [List.mem_singleton.mp q]
      exact Int.le_refl _
  · have := h.done j y hj (old (by omega) hy)
    exact fun v hv hf => (this v hv hf).more
/-- at the end each row is met, with the fewest steps -/
theorem Walked.end {n : Int} {s : List Int} {es : Met} {k : Nat} (h : Walked n s es k) (hr : RowOk n s) (hend : es.length ≤ k) : ∀ (us : List Deed), (∀ u ∈ us, UnitOk s.length u) → Has es (behind n s us) us.length := by
  intro us
  have key : ∀ (l : Nat), l ≤ us.length → (∀ u ∈ us, UnitOk s.length u) → RowOk n s → Has es (behind n s (us.take l)) l := by
    intro l
    induction l with
    | zero =>
      intro _ _ hr
      rw [List.take_zero, behind_nil hr]
      exact ⟨0, List.mem_of_getElem? h.st, by decide⟩
    | succ l ih =>
      intro hl hu hr
      obtain ⟨c, h1, h2⟩ := ih (by omega) hu hr
      obtain ⟨j, hj⟩ := List.mem_iff_getElem?.mp h1
      have hjl := (List.getElem?_eq_some_iff.mp hj).1
      have hul : l < us.length := by omega
      have hd := h.done j _ (by omega) hj us[l] (by rw [behind_length]; exact hu _ (List.getElem_mem hul)) (by
        have := (hu _ (List.getElem_mem hul))
        have a := this.2.1
        have b := this.2.2.1
        omega)
      obtain ⟨c2, h3, h4⟩ := hd
      rw [behind_behind, ← take_snoc (List.getElem?_eq_getElem hul)] at h3
      exact ⟨c2, h3, by
        have h4' : c2 ≤ c + 1 := h4
        omega⟩
  intro hu
  have := key us.length (Nat.le_refl _) hu hr
  rw [List.take_length] at this
  exact this
theorem key_one : ∀ {es : Met} {y : List Int} {c d : Int}, (es.map (·.1)).Nodup → (y, c) ∈ es → (y, d) ∈ es → c = d
  | (z, a) :: r, y, c, d, hn, h1, h2 => by
    rw [List.map_cons, List.nodup_cons] at hn
    rcases List.mem_cons.mp h1 with e1 | e1 <;> rcases List.mem_cons.mp h2 with e2 | e2
    · have a1 := Prod.mk.inj e1
      have a2 := Prod.mk.inj e2
      rw [a1.2, a2.2]
    · exact absurd (List.mem_map_of_mem (f := (·.1)) e2) (by rw [show (y, d).1 = z from (Prod.mk.inj e1).1]; exact hn.1)
    · exact absurd (List.mem_map_of_mem (f := (·.1)) e1) (by rw [show (y, c).1 = z from (Prod.mk.inj e2).1]; exact hn.1)
    · exact key_one hn.2 e1 e2
/-- a walk from row to row takes as many steps as are told -/
theorem Walked.found {n : Int} {s y : List Int} {es : Met} {k : Nat} {ds : List Deed} {q : Int} (h : Walked n s es k) (hn : 0 < n) (hr : RowOk n s) (hend : es.length ≤ k) (hR : Right n s y ds q) : (y, steps ds) ∈ es := by
  obtain ⟨us, h1, h2, h3⟩ := units_of hR.1
  obtain ⟨c, h4, h5⟩ := h.end hr hend us h1
  have e : behind n s us = y := by rw [← hR.2.1]; exact behind_congr n s fun i _ => by rw [h2]
  rw [e] at h4
  obtain ⟨vs, p1, p2, p3⟩ := h.path _ h4
  have low := (hR.fewest hn).2 _ (deeds_sol p1 p2)
  have up := cost_covers p1
  have ec : c = steps ds := by
    have p3' : steps vs = c := p3
    omega
  rw [← ec]
  exact h4
/-! ### there are few rows -/
def rowsOf (n : Nat) : Nat → List (List Int)
  | 0 => [[]]
  | l + 1 => (List.range n).flatMap fun x : Nat => (rowsOf n l).map fun r => (x : Int) :: r
theorem mem_rowsOf {n : Nat} : ∀ (r : List Int), RowOk n r → r ∈ rowsOf n r.length
  | [], _ => List.mem_singleton.mpr rfl
  | x :: r, h => by
    have ih := mem_rowsOf r fun y hy => h y (List.mem_cons_of_mem _ hy)
    have hx := h x List.mem_cons_self
    show x :: r ∈ (List.range n).flatMap fun x : Nat => (rowsOf n r.length).map fun r => (x : Int) :: r
    refine List.mem_flatMap.mpr ⟨x.toNat, List.mem_range.mpr (by omega), List.mem_map.mpr ⟨r, ih, ?_⟩⟩
    congr 1; omega
theorem nodup_le {α : Type} [DecidableEq α] : ∀ (l t : List α), l.Nodup → (∀ x ∈ l, x ∈ t) → l.length ≤ t.length
  | [], t, _, _ => Nat.zero_le _
  | x :: l, t, hn, hs => by
    rw [List.nodup_cons] at hn
    have hx := hs x List.mem_cons_self
    have ih := nodup_le l (t.erase x) hn.2 fun y hy => (List.mem_erase_of_ne (fun e => hn.1 (by rw [← e]; exact hy))).mpr (hs y (List.mem_cons_of_mem _ hy))
    rw [List.length_erase_of_mem hx] at ih
    have := List.length_pos_of_mem hx
    rw [List.length_cons]; omega
theorem Walked.rows {n : Int} {s : List Int} {es : Met} {k : Nat} (h : Walked n s es k) (hn : 0 < n) {e : List Int × Int} (he : e ∈ es) : RowOk n e.1 ∧ e.1.length = s.length := by
  obtain ⟨us, p1, p2, p3⟩ := h.path e he
  rw [← p2]
  exact ⟨behind_ok hn _ _, behind_length _ _ _⟩
theorem Walked.few {n : Nat} {s : List Int} {es : Met} {k : Nat} (h : Walked n s es k) (hn : 2 ≤ n) (hn4 : n ≤ 4) (hl : s.length ≤ 3) : es.length ≤ 64 := by
  have q := nodup_le (es.map (·.1)) (rowsOf n s.length) h.nd fun x hx => by
    obtain ⟨e, he, rfl⟩ := List.mem_map.mp hx
    obtain ⟨a, b⟩ := h.rows (by omega) he
    rw [← b]
    exact mem_rowsOf _ a
  rw [List.length_map] at q
  have all : ∀ n ∈ [2, 3, 4], ∀ l ∈ [0, 1, 2, 3], (rowsOf n l).length ≤ 64 := by decide +kernel
  have := all n (by simp only [List.mem_cons, List.not_mem_nil, or_false]; omega) s.length (by simp only [List.mem_cons, List.not_mem_nil, or_false]; omega)
  omega
end DR
/-! generator expressions over a list, their elements anything that a rule says: the generator's turns -/
namespace DR
open PySem PySem.Spec PyProof.Rows L2 GenW

/-- the consumer's own object, where it has one -/
def pinsOf (So : Option Addr) (s : Shared) : List (Addr × Obj) := match So with
  | none => []
  | some S => (match s.heap.get? S with
    | some o => [(S, o)]
    | none => [])
theorem mem_pinsOf {So : Option Addr} {s : Shared} {p : Addr × Obj} (h : p ∈ pinsOf So s) : So = some p.1 ∧ s.heap.get? p.1 = some p.2 := by
  unfold pinsOf at h
  cases So with
  | none => cases h
  | some S =>
    dsimp only at h
    cases e : s.heap.get? S with
    | none => rw [e] at h; cases h
    | some o =>
      rw [e] at h
      have := List.mem_singleton.mp h
      subst this
      exact ⟨rfl, e⟩
theorem pinsOf_heap {So : Option Addr} {s s' : Shared} (h : s'.heap = s.heap) : pinsOf So s' = pinsOf So s := by
  unfold pinsOf
  cases So with
  | none => rfl
  | some S => dsimp only; rw [h]

section
variable {Y : Cx} {A : Around} {elt tg iter : Expr} {scope : Scope} {pos : Pos} {I a : Addr} {xs : List V} {So : Option Addr} {g : TG} {te : TE} {W : List V → L2.St → Hp → Prop} {Z : List V → V → L2.St → Hp → Prop}
/-- the generator's code -/
abbrev geC (elt tg iter : Expr) (scope : Scope) (pos : Pos) (I : Addr) (env : Env) : Code := .compLoop (.GeneratorExp elt [⟨tg, iter, [], 0⟩] scope pos) 0 (.ref I) .none env
/-- where it stands: the invariant, the iterator -/
def GeAt (Y : Cx) (I a : Addr) (i : Nat) (pins : List (Addr × Obj)) (σ : L2.St) (H : Hp) (s : Shared) : Prop := Inv Y pins σ H s ∧ H I = none ∧ s.heap.IsListIter I a i
def geP (Y : Cx) (So : Option Addr) (N : Nat) (W : List V → L2.St → Hp → Prop) : Nat → Shared → Shared → Prop := fun n s₀ s => n = 0 ∧ ∃ ys σ H, ys.length = N ∧ Inv Y (pinsOf So s₀) σ H s ∧ W ys σ H
def geY (Y : Cx) (So : Option Addr) (I a : Addr) (N : Nat) (W : List V → L2.St → Hp → Prop) (Z : List V → V → L2.St → Hp → Prop) : Protocol := fun n s₀ v s kap =>
  ∃ ys y σ H, n + 1 + ys.length = N ∧ RelV y v ∧ GeAt Y I a (ys.length + 1) (pinsOf So s₀) σ H s ∧ Z ys y σ H ∧
    ∀ s'', GeAt Y I a (ys.length + 1) (pinsOf So s'') σ H s'' → W (ys ++ [y]) σ H → kap (.send .none) s''

theorem seg_ge (hov : A.over (geC elt tg iter scope pos I Y.env) [] = Y.A) (hh : Y.A.handled = none) (hco : Y.env.scope.isCoroutine = false) (hex : I ∈ Y.ex) (hIa : a ≠ I) (hpn : ∀ p ∈ Y.pn, p.1 ≠ I) (hSo : So ≠ some I)
    (hxe : ∀ e s, ¬ Y.xe e s) (hg : PG Y tg g) (he : PE Y elt te) (hL : ∀ ys σ H, W ys σ H → SqL Y.K H a xs)
    (turn : ∀ ys x σ H, xs[ys.length]? = some x → W ys σ H → g x σ H fun σ1 H1 => te σ1 H1 fun y H2 => Z ys y σ1 H2) :
    ∀ (k : Nat) (ys : List V) (s₀ s : Shared) (σ : L2.St) (H : Hp), k + ys.length = xs.length → GeAt Y I a ys.length (pinsOf So s₀) σ H s → W ys σ H →
      Seg (model Y.prog Y.w) A (fun n s₀ r s₁ => r = .ok .next ∧ geP Y So xs.length W n s₀ s₁) (geY Y So I a xs.length W Z) k s₀ (geC elt tg iter scope pos I Y.env) ((model Y.prog Y.w).den (geC elt tg iter scope pos I Y.env)) [] s := by
  have nS : ∀ {s : Shared}, ∀ p ∈ pinsOf So s, p.1 ≠ I := fun {s} p hp z => hSo (by rw [← z]; exact (mem_pinsOf hp).1)
  intro k
  induction k with
  | zero =>
    intro ys s₀ s σ H hk hI hw
    obtain ⟨J, hn, hit⟩ := hI
    obtain ⟨its, rv, hl, hz⟩ := J.list (hL ys σ H hw)
    have hlen : its.length = ys.length := by rw [← rv.length]; omega
    show Seg _ A _ _ _ s₀ _ ((compTurn (.GeneratorExp elt [⟨tg, iter, [], 0⟩] scope pos) 0 (.ref I) .none Y.env).onRaise (leaving Y.env)) [] s
    rw [compTurn_gen, Sem.onRaise_eq_wrap]
    refine seg_bind_wrap (wpAny_standAt ?_)
    refine seg_bind_wrap ?_
    rw [hov]
    refine wpAny_pyNext_list_end hh hit hl.isList (by simp [hlen]) fun h' he' => ?_
    have J' := J.turned (t' := s.toks) (it := I) (h' := h') (fun b o hb e => he' b o hb e) hn (J.ok.exf I hex).1 (.inl hex) (J.ok.exf I hex).2 fun p hp => by
      rcases List.mem_append.mp hp with hp | hp
      · exact hpn p hp
      · exact nS p hp
    exact seg_end (.ok .next) ⟨rfl, rfl, ys, σ, H, by omega, J', hw⟩
  | succ k ih =>
    intro ys s₀ s σ H hk hI hw
    obtain ⟨J, hn, hit⟩ := hI
    obtain ⟨its, rv, hl, hz⟩ := J.list (hL ys σ H hw)
    have hlt : ys.length < xs.length := by omega
    have ex := List.getElem?_eq_getElem hlt
    obtain ⟨u, eu, ru⟩ := rv.get ex
    show Seg _ A _ _ _ s₀ _ ((compTurn (.GeneratorExp elt [⟨tg, iter, [], 0⟩] scope pos) 0 (.ref I) .none Y.env).onRaise (leaving Y.env)) [] s
    rw [compTurn_gen, Sem.onRaise_eq_wrap]
    refine seg_bind_wrap (wpAny_standAt ?_)
    refine seg_bind_wrap ?_
    rw [hov]
    refine wpAny_pyNext_list_item hit hl.isList (x := u) (by simpa using eu) fun h1 hit1 hs1 => ?_
    have J1 := J.turned (t' := s.toks) (it := I) (h' := h1) (fun b o hb e => hs1.extBut b o hb e) hn (J.ok.exf I hex).1 (.inl hex) (J.ok.exf I hex).2 fun p hp => by
      rcases List.mem_append.mp hp with hp | hp
      · exact hpn p hp
      · exact nS p hp
    obtain ⟨oi, ho, hc, hd⟩ := id hit1
    have J2 : Inv Y (pinsOf So s₀ ++ [(I, oi)]) σ H { s with heap := h1, toks := s.toks } := J1.pins_of fun p hp => by
      rcases List.mem_append.mp hp with hp | hp
      · exact J1.pin p (List.mem_append_right _ hp)
      · have e := List.mem_singleton.mp hp
        subst e
        exact ⟨ho, hn, (J.ok.exf I hex).1, J.ok.exfs I hex, fun v q => by rw [hd] at q; cases q⟩
    refine seg_bind_wrap (letGo_of_cls ho hc hd (by decide) ?_)
    refine seg_bind_wrap ?_
    rw [hov]
    refine wpAny_mono (hg.run _ _ σ H _ u _ J2 ru (turn ys _ σ H ex hw)) (fun _ s3 h3 => ?_) fun _ _ z => (hxe _ _ z).elim
    obtain ⟨σ1, H1, J3, q3⟩ := h3
    refine seg_bind_wrap ?_
    rw [hov]
    refine wpAny_tests_nil ?_
    simp only [if_true]
    have hy : ∀ v, yieldOut Y.env v = yieldValue v := fun v => by simp only [yieldOut, hco, Bool.false_eq_true, if_false]
    simp only [hy]
    rw [Sem.bind_eq_wrap', Sem.bind_eq_wrap', Sem.wrap_wrap, Sem.wrap_wrap]
    refine seg_wrap ?_
    rw [hov]
    refine wpAny_mono (he.run _ s3 σ1 H1 _ J3 q3) (fun v s4 h4 => ?_) fun _ _ z => (hxe _ _ z).elim
    obtain ⟨y, H2, J4, r4, z4⟩ := h4
    have pI := J4.pin (I, oi) (List.mem_append_right _ (List.mem_append_right _ (List.mem_singleton.mpr rfl)))
    have J5 : Inv Y (pinsOf So s₀) σ1 H2 s4 := J4.unpinned
    refine seg_at (seg_yield rfl rfl rfl ⟨ys, y, σ1, H2, by omega, r4, ⟨J5, pI.2.1, oi, pI.1, hc, hd⟩, z4, fun s'' h5 w5 => ?_⟩)
    have hl1 : (ys ++ [y]).length = ys.length + 1 := by rw [List.length_append]; rfl
    refine seg_again rfl (ih (ys ++ [y]) s'' s'' σ1 H2 (by omega) (by rw [hl1]; exact h5) w5)
end
end DR
namespace DR
open PySem PySem.Spec PyProof.Rows L2 GenW
section
variable {Y : Cx} {A : Around} {elt tg iter : Expr} {scope : Scope} {pos : Pos} {I a : Addr} {xs : List V} {So : Option Addr} {g : TG} {te : TE} {W : List V → L2.St → Hp → Prop} {Z : List V → V → L2.St → Hp → Prop}
theorem seg_geStart {s₀ s : Shared} {ys : List V} {k : Nat} (hit : s.heap.IsListIter I a 0)
    {R : GenEnd} {Yp : Protocol} (loop : Seg (model Y.prog Y.w) A R Yp k s₀ (geC elt tg iter scope pos I Y.env) ((model Y.prog Y.w).den (geC elt tg iter scope pos I Y.env)) [] s) :
    Seg (model Y.prog Y.w) A R Yp k s₀ (.compStart (.GeneratorExp elt [⟨tg, iter, [], 0⟩] scope pos) 0 (.ref I) .none Y.env)
      ((model Y.prog Y.w).den (.compStart (.GeneratorExp elt [⟨tg, iter, [], 0⟩] scope pos) 0 (.ref I) .none Y.env)) [] s := by
  show Seg _ A _ _ _ s₀ _ ((compStart (.GeneratorExp elt [⟨tg, iter, [], 0⟩] scope pos) 0 (.ref I) .none Y.env).onRaise (leaving Y.env)) [] s
  unfold compStart
  rw [Sem.onRaise_eq_wrap]
  show Seg _ A _ _ _ s₀ _ ((ask >>= _).wrap _ _ _ _) [] s
  refine seg_bind_wrap (wpAny_askSetting ?_)
  split
  · exact seg_again rfl loop
  · first
      | exact seg_bind_wrap (wpAny_rule (seg_bind_wrap (wpAny_standAt (seg_bind_wrap (wpAny_pyIter_listiter hit (seg_again rfl loop))))))
      | (refine seg_bind_wrap (wpAny_rule ?_); show Seg _ A _ _ _ s₀ _ ((standAt iter.pos >>= _).wrap _ _ _ _) [] s; exact seg_bind_wrap (wpAny_standAt (seg_bind_wrap (wpAny_pyIter_listiter hit (seg_again rfl loop)))))

/-- the generator's own object is pinned -/
def GePn (Y : Cx) (ga : Addr) (gn : Nat) : Prop := ∃ go nm qn, (ga, go) ∈ Y.pn ∧ go.cls = .type "generator" ∧ go.data = .fields #[.int gn 0, nm, qn] ∧ go.slots = #[]
theorem GePn.isGen {ga gn pins σ H s} (h : GePn Y ga gn) (J : Inv Y pins σ H s) : s.heap.IsGen ga gn := by
  obtain ⟨go, nm, qn, hm, hc, hd, hs⟩ := h
  exact ⟨go, nm, qn, (J.pin _ (List.mem_append_left _ hm)).1, hc, hd, hs⟩
/-- the generator sleeps at a turn -/
def GeS (Y : Cx) (So : Option Addr) (I a : Addr) (N : Nat) (W : List V → L2.St → Hp → Prop) (Z : List V → V → L2.St → Hp → Prop) (A : Around) (gn : Nat) (ys : List V) (σ : L2.St) (H : Hp) (s : Shared) : Prop :=
  GeAt Y I a ys.length (pinsOf So s) σ H s ∧ W ys σ H ∧ ∃ gs, s.gens[gn]? = some gs ∧ ∀ s'', GeAt Y I a ys.length (pinsOf So s'') σ H s'' → W ys σ H →
    gs.Goes (model Y.prog Y.w) A (fun n s₀ r s₁ => r = .ok .next ∧ geP Y So N W n s₀ s₁) (geY Y So I a N W Z) (N - ys.length) (.send .none) s''
theorem inv_gens {pins : List (Addr × Obj)} {σ : L2.St} {H : Hp} {s : Shared} (J : Inv Y pins σ H s) {g : Nat} {x : GenState} (hx : x.bare = true) : Inv Y pins σ H (s.setGen g x) :=
  J.call' (ch := []) rfl Un.refl J.hok (allBare_setGen J.bare hx) fun b hb => by simp at hb
theorem inv_heap {pins : List (Addr × Obj)} {σ : L2.St} {H : Hp} {s : Shared} {h' : Heap} (J : Inv Y pins σ H s) (k : ∀ b o, s.heap.get? b = some o → h'.get? b = some o) : Inv Y pins σ H { s with heap := h' } :=
  J.kept (t' := s.toks) k

theorem next_ge {E : Value → Shared → Prop} {N ga gn : Nat} {ys : List V} {σ : L2.St} {H : Hp} {s : Shared} {Q : Option Value → Shared → Prop} (hh : A.handled = none) (hroom : A.depth < recursionLimit) (hpn : GePn Y ga gn) (hS : GeS Y So I a N W Z A.in1 gn ys σ H s)
    (hQ : ∀ zs y v σ' H' s' gs, zs.length < N → RelV y v → GeAt Y I a (zs.length + 1) (pinsOf So s) σ' H' s' → Z zs y σ' H' → s'.gens[gn]? = some gs →
      (∀ s'', GeAt Y I a (zs.length + 1) (pinsOf So s'') σ' H' s'' → W (zs ++ [y]) σ' H' → N - ys.length = N - (zs.length + 1) + 1 ∧
        gs.Goes (model Y.prog Y.w) A.in1 (fun n s₀ r s₁ => r = .ok .next ∧ geP Y So N W n s₀ s₁) (geY Y So I a N W Z) (N - (zs.length + 1)) (.send .none) s'') → Q (some v) s')
    (hP : ∀ zs σ' H' s', N - ys.length = 0 → zs.length = N → Inv Y (pinsOf So s) σ' H' s' → W zs σ' H' → Q none s') : wpAny (model Y.prog Y.w) A (pyNext (.ref ga)) Q E s := by
  obtain ⟨⟨J, hn, hit⟩, hw, gs, hgs, hgo⟩ := hS
  have hgl : gn + 1 ≤ s.gens.size := (Array.getElem?_eq_some_iff.mp hgs).1
  have hp0 : pinsOf So (s.setGen gn .running) = pinsOf So s := pinsOf_heap rfl
  refine wpAny_gsz (n := gn + 1) hgl (wpAny_pyNext_genexpQ (P := geP Y So N W) (Y := geY Y So I a N W Z) (n := N - ys.length) hh J.nolimit hroom (hpn.isGen J) hgs (hgo (s.setGen gn .running) ⟨by rw [hp0]; exact inv_gens J rfl, hn, hit⟩ hw) (fun v s₁ gs' hb hv => ?_) (fun s₁ hp h' hk => ?_))
  · intro hsz
    obtain ⟨zs, y, σ', H', hlen, rv, ⟨J', hn', hit'⟩, hz, hkap⟩ := hv
    rw [hp0] at J'
    have hsz1 : gn < s₁.gens.size := by
      have q : (s₁.setGen gn gs').gens.size = s₁.gens.size := setGen_size _ _ _
      have hsz' : gn + 1 ≤ (s₁.setGen gn gs').gens.size := hsz
      omega
    refine hQ zs y v σ' H' _ gs' (by omega) rv ⟨inv_gens J' hb, hn', hit'⟩ hz (setGen_at hsz1) fun s'' h'' w'' => ?_
    have k := hkap s'' h'' w''
    cases e : N - ys.length with
    | zero =>
      rw [e] at k
      exact False.elim k
    | succ m =>
      rw [e] at k hlen
      have hm : N - (zs.length + 1) = m := by omega
      rw [hm]
      exact ⟨rfl, k⟩
  · intro _
    obtain ⟨h0, zs, σ', H', hlen, J', w'⟩ := hp
    rw [hp0] at J'
    refine hP zs σ' H' _ h0 hlen ?_ w'
    have J1 := inv_gens (g := gn) (x := .finished) J' rfl
    exact inv_heap J1 hk

/-- all(..) -/
theorem all_ge {R : Result → Shared → Prop} {N ga gn : Nat} {QF : L2.St → Hp → Prop} (hh : A.handled = none) (hroom : A.depth < recursionLimit) (hpn : GePn Y ga gn)
    (hF : ∀ σ H s', Inv Y [] σ H s' → QF σ H → R (.ok (.ret (.bool false))) s') (hT : ∀ ys σ H s', ys.length = N → Inv Y [] σ H s' → W ys σ H → R (.ok (.ret (.bool true))) s') :
    ∀ (k : Nat) (ys : List V) (σ : L2.St) (H : Hp) (s : Shared), N - ys.length = k → GeS Y none I a N W (fun ys y σ H => ∃ b, y = .bl b ∧ if b = true then W (ys ++ [y]) σ H else QF σ H) A.in1.in1 gn ys σ H s →
      codeAny (model Y.prog Y.w) A (.builtin "all.loop" ⟨[.ref ga], []⟩) R s := by
  have turn : ∀ (k : Nat), (∀ j, j < k → ∀ (ys : List V) (σ : L2.St) (H : Hp) (s : Shared), N - ys.length = j → GeS Y none I a N W (fun ys y σ H => ∃ b, y = .bl b ∧ if b = true then W (ys ++ [y]) σ H else QF σ H) A.in1.in1 gn ys σ H s →
      codeAny (model Y.prog Y.w) A (.builtin "all.loop" ⟨[.ref ga], []⟩) R s) → ∀ (ys : List V) (σ : L2.St) (H : Hp) (s : Shared), N - ys.length = k → GeS Y none I a N W (fun ys y σ H => ∃ b, y = .bl b ∧ if b = true then W (ys ++ [y]) σ H else QF σ H) A.in1.in1 gn ys σ H s →
      codeAny (model Y.prog Y.w) A (.builtin "all.loop" ⟨[.ref ga], []⟩) R s := by
    intro k ih ys σ H s hk hS
    refine codeAny_builtin F.entry_all_loop ?_
    rw [Around.under_plainId F.plain_all_loop _]
    show wpAny _ A.in1 (pyNext (.ref ga) >>= _) _ _ s
    refine wpAny_bind (next_ge (A := A.in1) hh hroom hpn hS (fun zs y v σ' H' s' gs hzN rv hG hz hgs hc => ?_) (fun zs σ' H' s' _ hl J w => ?_))
    · obtain ⟨b, rfl, hz⟩ := hz
      obtain rfl : v = Value.bool b := rv
      show wpAny _ A.in1 (_ >>= _) _ _ s'
      refine wpAny_bind (wpAny_holding (wpAny_truthy_bool ?_))
      refine wpAny_bind (wpAny_letGo ?_)
      cases b with
      | true =>
        simp only [if_true] at hz ⊢
        have hl1 : (zs ++ [V.bl true]).length = zs.length + 1 := by rw [List.length_append]; rfl
        refine wpAny_pure ⟨plainId_quiet F.plain_all_loop _, ih (N - (zs.length + 1)) ?_ (zs ++ [.bl true]) σ' H' s' (by rw [hl1]) ⟨by rw [hl1]; exact hG, hz, gs, hgs, fun s'' h'' w'' => ?_⟩⟩
        · have := (hc s' hG hz).1
          omega
        · rw [hl1] at h'' ⊢
          exact (hc s'' h'' w'').2
      | false =>
        simp only [Bool.false_eq_true, if_false] at hz ⊢
        exact wpAny_bind (wpAny_rule (wpAny_pure (hF σ' H' s' hG.1 hz)))
    · exact wpAny_bind (wpAny_rule (wpAny_pure (hT zs σ' H' s' hl J w)))
  intro k
  induction k using Nat.strongRecOn with
  | ind k ih => exact turn k ih
end
end DR
namespace DR
open PySem PySem.Spec PyProof.Rows L2 GenW
section
variable {Y : Cx} {A : Around} {I a : Addr} {W : List V → L2.St → Hp → Prop}
/-- an object out of the frame's reach may be changed by others -/
theorem inv_out {S : Addr} {o o' : Obj} {σ : L2.St} {H : Hp} {s : Shared} {h' : Heap} {t' : Nat} (J : Inv Y [(S, o)] σ H s) (hp : ∀ p ∈ Y.pn, p.1 ≠ S) (hA : Apart Y S)
    (k : ∀ b ob, b ≠ S → s.heap.get? b = some ob → h'.get? b = some ob) (e : h'.get? S = some o') (hd : ∀ v, o'.data ≠ .cell v) : Inv Y [(S, o')] σ H { s with heap := h', toks := t' } := by
  obtain ⟨_, hS0, hSL, hSf, _⟩ := J.pin (S, o) (List.mem_append_right _ (List.mem_singleton.mpr rfl))
  have J0 : Inv Y [] σ H s := J.pins_of fun p hp => by simp at hp
  have nt : ∀ b u, H b = some u → b ≠ S := fun b u q hb => by rw [hb, hS0] at q; cases q
  have nc : ∀ b, b ∉ [S] → b ≠ S := fun b hb e => hb (by rw [e]; exact List.mem_singleton.mpr rfl)
  have J1 : Inv Y [] σ H { s with heap := h', toks := t' } := by
    refine J0.step (g' := s.gens) (t' := t') (d' := s.drawn) (ch := [S]) (fun b hb => ?_)
      (fun b ob _ _ hc q _ => k b ob (nc b hc) q) (fun b ob _ _ hc q _ => ⟨ob.slots, k b ob (nc b hc) q⟩) (fun _ _ _ _ n => n) (fun b ob hc q => ⟨ob, k b ob (nc b hc) q⟩)
      (fun _ _ q => q) (fun _ _ _ q => q) (fun b ps q => ⟨#[], by rw [q]; simp⟩) (fun m hm => ?_) (fun b u q => ?_) J.bare
    · rw [List.mem_singleton.mp hb]
      refine ⟨.inr hA.1, hA.2.1, hA.2.2, fun p hp' => ?_⟩
      rcases List.mem_append.mp hp' with hp' | hp'
      · exact hp p hp'
      · simp at hp'
    · obtain ⟨ob, es, ep, ho, r⟩ := hm
      exact ⟨ob, es, ep, k _ ob (Ne.symm hSL) ho, r⟩
    · refine (J0.hok b u q).stay (fun c v hc y => k c v ?_ y) (fun _ y => y) fun _ _ y => y
      rcases hc with y | y
      · rw [y]; exact nt b u q
      · exact nt c _ y
  refine J1.pins_of fun p hp' => ?_
  rw [List.mem_singleton.mp hp']
  exact ⟨e, hS0, hSL, hSf, hd⟩
theorem pinsOf_some {S : Addr} {s : Shared} {o : Obj} (h : s.heap.get? S = some o) : pinsOf (some S) s = [(S, o)] := by
  unfold pinsOf
  dsimp only
  rw [h]
theorem take_one {vals : List Int} {zs : List V} {y : V} (h1 : zs = (vals.take zs.length).map V.int) (h2 : zs ++ [y] = (vals.take (zs.length + 1)).map V.int) : ∃ z, y = .int z ∧ (vals.take (zs.length + 1)).sum = (vals.take zs.length).sum + z := by
  have hl := congrArg List.length h2
  rw [List.length_append, List.length_singleton, List.length_map, List.length_take] at hl
  have hlt : zs.length < vals.length := by omega
  have e := List.getElem?_eq_getElem hlt
  have et : vals.take (zs.length + 1) = vals.take zs.length ++ [vals[zs.length]] := by rw [List.take_add_one, e]; rfl
  rw [et, List.map_append, ← h1] at h2
  have := List.append_cancel_left h2
  refine ⟨vals[zs.length], ?_, ?_⟩
  · simpa using this
  · rw [et, List.sum_append]
    simp
/-- sum(..): the numbers are vals -/
theorem sum_ge {R : Result → Shared → Prop} {N ga gn S : Nat} {vals : List Int} (hvl : vals.length = N) (hh : A.handled = none) (hroom : A.depth < recursionLimit) (hpn : GePn Y ga gn) (hpS : ∀ p ∈ Y.pn, p.1 ≠ S) (hAp : Apart Y S) (hSI : S ≠ I)
    (hW : ∀ ys σ H, W ys σ H → ys = (vals.take ys.length).map V.int)
    (hT : ∀ ys σ H s' t, ys.length = N → Inv Y [] σ H s' → W ys σ H → R (.ok (.ret (.int (vals.take N).sum t))) s') :
    ∀ (k : Nat) (ys : List V) (σ : L2.St) (H : Hp) (s : Shared) (tA : Tok) (c : Nat) (st : Int), N - ys.length = k → (st = 0 ∨ st = 2) → s.heap.get? S = some { cls := .type "list", dict := none, data := .seq #[.int (vals.take ys.length).sum tA] c, slots := #[] } →
      GeS Y (some S) I a N W (fun ys y σ H => W (ys ++ [y]) σ H) A.in1.in1 gn ys σ H s →
      codeAny (model Y.prog Y.w) A (.builtin "sum.loop" ⟨[.ref ga, .ref S, rawInt st, rawInt 0], []⟩) R s := by
  intro k
  induction k using Nat.strongRecOn with
  | ind k ih =>
    intro ys σ H s tA c st hk hst2 hS hG
    refine codeAny_builtin F.entry_sum_loop ?_
    rw [Around.under_plainId F.plain_sum_loop _]
    show wpAny _ A.in1 (seqItems? (.ref S) >>= _) _ _ s
    refine wpAny_bind (wpAny_seqItems hS rfl ?_)
    show wpAny _ A.in1 (tryCatch (pyNext (.ref ga)) _ >>= _) _ _ s
    have eP := pinsOf_some hS
    have hWy := hW _ _ _ hG.2.1
    refine wpAny_bind (wpAny_tryCatch (next_ge (A := A.in1) hh hroom hpn hG (fun zs y v σ' H' s' gs hzN rv hGe hz hgs hc => ?_) (fun zs σ' H' s' h0 hl J w => ?_)))
    · rw [eP] at hGe
      have hS' : s'.heap.get? S = some { cls := .type "list", dict := none, data := .seq #[.int (vals.take ys.length).sum tA] c, slots := #[] } := (hGe.1.pin _ (List.mem_append_right _ (List.mem_singleton.mpr rfl))).1
      -- the turn's place
      have hzl := congrArg List.length (hW _ _ _ hz)
      rw [List.length_append, List.length_singleton, List.length_map, List.length_take] at hzl
      have hGe0 : GeAt Y I a (zs.length + 1) (pinsOf (some S) s') σ' H' s' := by rw [pinsOf_some hS']; exact hGe
      have hm := (hc s' hGe0 hz).1
      have hlen : zs.length = ys.length := by omega
      have hl1 : (zs ++ [y]).length = zs.length + 1 := by rw [List.length_append]; rfl
      have hWz := hW _ _ _ hz
      rw [hl1] at hWz
      have hz0 : zs = (vals.take zs.length).map V.int := by
        have q := congrArg (List.take zs.length) hWz
        rw [List.take_left, ← List.map_take, List.take_take, Nat.min_eq_left (by omega)] at q
        exact q
      obtain ⟨z, rfl, esum⟩ := take_one hz0 hWz
      obtain ⟨t, rfl⟩ := (show ∃ t, v = Value.int z t from rv)
      rw [hlen] at esum
      obtain ⟨J, hn, hit⟩ := hGe
      obtain ⟨oi, hio, hic⟩ := hit
      -- behind the storing
      have next : ∀ (h' : Heap) (tk : Nat) (c' : Nat) (tA' : Tok) (st' : Int), (st' = 0 ∨ st' = 2) → (∀ b ob, b ≠ S → s'.heap.get? b = some ob → h'.get? b = some ob) →
          h'.get? S = some { cls := .type "list", dict := none, data := .seq #[.int ((vals.take ys.length).sum + z) tA'] c', slots := #[] } →
          codeAny (model Y.prog Y.w) A (.builtin "sum.loop" ⟨[.ref ga, .ref S, rawInt st', rawInt 0], []⟩) R { s' with heap := h', toks := tk } := by
        intro h' tk c' tA' st' hst' kp e'
        have J2 : Inv Y [(S, _)] σ' H' { s' with heap := h', toks := tk } := inv_out J hpS hAp kp e' fun v q => by cases q
        have G2 : GeAt Y I a (zs.length + 1) (pinsOf (some S) { s' with heap := h', toks := tk }) σ' H' { s' with heap := h', toks := tk } := by
          rw [pinsOf_some (s := { s' with heap := h', toks := tk }) e']
          exact ⟨J2, hn, oi, kp _ _ (Ne.symm hSI) hio, hic⟩
        refine ih (N - (zs.length + 1)) (by omega) (zs ++ [.int z]) σ' H' _ tA' c' st' (by rw [hl1]) hst' ?_ ⟨by rw [hl1]; exact G2, hz, gs, hgs, fun s'' h'' w'' => ?_⟩
        · rw [hl1, hlen, esum]
          exact e'
        · rw [hl1] at h'' ⊢
          exact (hc s'' h'' w'').2
      rcases hst2 with rfl | rfl
      · show wpAny _ A.in1 (if (_ : Bool) = true then (mkInt ((vals.take ys.length).sum + z) >>= _) else _) _ _ _
        split
        · refine wpAny_bind (wpAny_mkInt ?_)
          show wpAny _ A.in1 (updateSeq S (fun _ => #[.int ((vals.take ys.length).sum + z) s'.toks]) >>= _) _ _ _
          refine wpAny_bind ?_
          refine wpAny_updateSeq hS' rfl (wpAny_pure ⟨plainId_quiet F.plain_sum_loop _, ?_⟩)
          exact next _ _ _ s'.toks 0 (.inl rfl) (fun b ob hb e => (Heap.get?_update_other _ _ (Ne.symm hb)).trans e) (Heap.get?_update_self _ hS' rfl)
        · refine wpAny_bind (wpAny_rule ?_)
          refine wpAny_bind (wpAny_attempt (wpAny_holding (wpAny_add_int ?_)))
          show wpAny _ A.in1 (updateSeq S (fun _ => #[.int ((vals.take ys.length).sum + z) s'.toks]) >>= _) _ _ _
          refine wpAny_bind (wpAny_updateSeq hS' rfl ?_)
          have hS₂ := Heap.get?_update_self (Obj.mapSeq fun _ => #[Value.int ((vals.take ys.length).sum + z) s'.toks]) hS' rfl
          refine wpAny_bind (wpAny_letGo ?_)
          refine wpAny_bind (wpAny_updateSeq hS₂ rfl (wpAny_pure ⟨plainId_quiet F.plain_sum_loop _, ?_⟩))
          exact next _ _ _ s'.toks 2 (.inr rfl) (fun b ob hb e => (Heap.get?_update_other _ _ (Ne.symm hb)).trans ((Heap.get?_update_other _ _ (Ne.symm hb)).trans e)) (Heap.get?_update_self _ hS₂ rfl)
      · show wpAny _ A.in1 ((holding [Value.int z t] (binaryOp .Add (.int (vals.take ys.length).sum tA) (.int z t))).attempt >>= _) _ _ _
        refine wpAny_bind (wpAny_attempt (wpAny_holding (wpAny_add_int ?_)))
        show wpAny _ A.in1 (updateSeq S (fun _ => #[.int ((vals.take ys.length).sum + z) s'.toks]) >>= _) _ _ _
        refine wpAny_bind (wpAny_updateSeq hS' rfl ?_)
        have hS₂ := Heap.get?_update_self (Obj.mapSeq fun _ => #[Value.int ((vals.take ys.length).sum + z) s'.toks]) hS' rfl
        refine wpAny_bind (wpAny_letGo ?_)
        refine wpAny_bind (wpAny_updateSeq hS₂ rfl (wpAny_pure ⟨plainId_quiet F.plain_sum_loop _, ?_⟩))
        exact next _ _ _ s'.toks 2 (.inr rfl) (fun b ob hb e => (Heap.get?_update_other _ _ (Ne.symm hb)).trans ((Heap.get?_update_other _ _ (Ne.symm hb)).trans e)) (Heap.get?_update_self _ hS₂ rfl)
    · rw [eP] at J
      have hT' := hT zs σ' H' s' tA hl (J.pins_of fun p hp => by simp at hp) w
      rw [List.take_of_length_le (by omega)] at hT'
      have e : (vals.take ys.length).sum = vals.sum := by rw [List.take_of_length_le (by omega)]
      rw [← e] at hT'
      exact wpAny_pure hT'
end
end DR
/-! all that was tracked is as it was; the tables of code objects may have grown -/
namespace DR
open PySem PySem.Spec PyProof.Rows L2
class NT (o : HO) : Prop where
  nt : ∀ ps, o ≠ .tbl ps
instance {xs} : NT (.lst xs) := ⟨fun _ e => by cases e⟩
instance {xs} : NT (.tup xs) := ⟨fun _ e => by cases e⟩
instance {xs} : NT (.dK xs) := ⟨fun _ e => by cases e⟩
instance {xs} : NT (.dT xs) := ⟨fun _ e => by cases e⟩
instance {S n} : NT (.set S n) := ⟨fun _ e => by cases e⟩
instance {C dx fs} : NT (.ins C dx fs) := ⟨fun _ e => by cases e⟩
instance {x} : NT (.own x) := ⟨fun _ e => by cases e⟩
instance {x} : NT (.xd x) := ⟨fun _ e => by cases e⟩
instance {f x} : NT (.met f x) := ⟨fun _ e => by cases e⟩
instance {f x} : NT (.rng f x) := ⟨fun _ e => by cases e⟩
instance {f x} : NT (.frz f x) := ⟨fun _ e => by cases e⟩
instance {f} : NT (.ext f) := ⟨fun _ e => by cases e⟩
structure Same (H H' : Hp) : Prop where
  keep : ∀ b o, NT o → H b = some o → H' b = some o
  tab : ∀ b ps, H b = some (.tbl ps) → ∃ more, H' b = some (.tbl (ps ++ more)) ∧ (TriplesOk ps.toList → TriplesOk (ps ++ more).toList)
theorem Same.at {H H' : Hp} (s : Same H H') (b : Addr) (o : HO) [n : NT o] (h : H b = some o) : H' b = some o := s.keep b o n h
instance {H H' : Hp} : CoeFun (Same H H') (fun _ => ∀ (b : Addr) (o : HO) [NT o], H b = some o → H' b = some o) := ⟨fun s => Same.at s⟩
theorem nt_or (o : HO) : NT o ∨ ∃ ps, o = .tbl ps := by
  cases o <;> first | exact .inl inferInstance | exact .inr ⟨_, rfl⟩
theorem Same.of {H H' : Hp} (h : ∀ b o, H b = some o → H' b = some o) : Same H H' := ⟨fun b o _ e => h b o e, fun b ps e => ⟨#[], by rw [Array.append_empty]; exact h b _ e, by rw [Array.append_empty]; exact _root_.id⟩⟩
theorem Same.refl (H : Hp) : Same H H := .of fun _ _ h => h
theorem Same.trans {H H1 H2 : Hp} (a : Same H H1) (b : Same H1 H2) : Same H H2 := by
  refine ⟨fun c o n h => b.keep c o n (a.keep c o n h), fun c ps h => ?_⟩
  obtain ⟨m1, e1, t1⟩ := a.tab c ps h
  obtain ⟨m2, e2, t2⟩ := b.tab c _ e1
  exact ⟨m1 ++ m2, by rw [e2, Array.append_assoc], fun t => by rw [← Array.append_assoc]; exact t2 (t1 t)⟩
theorem Same.there {H H' : Hp} (s : Same H H') {b : Addr} {o : HO} (h : H b = some o) : ∃ u, H' b = some u := by
  rcases nt_or o with n | ⟨ps, e⟩
  · exact ⟨o, s.keep b o n h⟩
  · subst e
    obtain ⟨m, e, _⟩ := s.tab b ps h
    exact ⟨_, e⟩
theorem Same.free {H H' : Hp} (s : Same H H') {l : Addr} (h : H' l = Option.none) : H l = Option.none := by
  cases q : H l with
  | none => rfl
  | some o =>
    obtain ⟨u, e⟩ := s.there q
    rw [e] at h
    cases h
theorem Same.seq {K : PySem.W.Frag} {H H' : Hp} {a : Addr} {xs : List V} (e : Same H H') (h : SqL K H a xs) : SqL K H' a xs := by
  rcases h with (h | ⟨o, h⟩) | h
  · exact .inl (.inl (e _ _ h))
  · exact .inl (.inr ⟨o, e _ _ h⟩)
  · exact .inr h
theorem Same.made {H H1 : Hp} {x dx C : Addr} (nx : H x = Option.none) (nd : H dx = Option.none) (k : ∀ b o, (upd (upd H dx (.own x)) x (.ins C dx [])) b = some o → b ≠ x → H1 b = some o) : Same H H1 := .of fun b o e => by
  have h1 : b ≠ x := fun z => by rw [z, nx] at e; cases e
  have h2 : b ≠ dx := fun z => by rw [z, nd] at e; cases e
  exact k b o (by rw [upd_ne h1, upd_ne h2]; exact e) h1
/-- the table at P -/
abbrev TabG (H : Hp) (P : Addr) : Prop := GxR.TabG H P
def Tabs (T : List Addr) (H : Hp) : Prop := ∀ P ∈ T, TabG H P
theorem Same.tabG {H H' : Hp} {P : Addr} (s : Same H H') (t : TabG H P) : TabG H' P := by
  obtain ⟨ps, h, ht⟩ := t
  obtain ⟨m, e, t⟩ := s.tab P ps h
  exact ⟨_, e, t ht⟩
theorem Tabs.same {T : List Addr} {H H' : Hp} (t : Tabs T H) (s : Same H H') : Tabs T H' := fun P hP => s.tabG (t P hP)
/-- a table grows -/
theorem same_tab {H : Hp} {P : Addr} {ps more : Array Value} (h : H P = some (.tbl ps)) (t : TriplesOk (ps ++ more).toList) : Same H (upd H P (.tbl (ps ++ more))) := by
  refine ⟨fun b o n e => ?_, fun b qs e => ?_⟩
  · have hb : b ≠ P := fun z => by
      rw [z, h] at e
      exact n.nt ps (Option.some.inj e).symm
    rw [upd_ne hb]
    exact e
  · by_cases hb : b = P
    · subst hb
      rw [h] at e
      cases e
      exact ⟨more, upd_same, fun _ => t⟩
    · exact ⟨#[], by rw [upd_ne hb, Array.append_empty]; exact e, by rw [Array.append_empty]; exact _root_.id⟩
end DR
namespace DR
open PySem PySem.Spec PyProof.Rows L2 GenW
/-- the context of a generator expression's frame -/
abbrev gcx (X : Cx) (N : List Str) (A : Around) (s : Shared) (H : Hp) (cenv : Env) (I : Addr) (pn : List (Addr × Obj)) : Cx :=
  { X with A := A, N := N, s_0 := s, H_0 := H, env := cenv, outer := X.stack, stack := cenv :: X.stack, ex := [I], fn := fun _ => false, calm := true, pn := pn, xe := fun _ _ => False }
/-- its own scope: N its targets, then what it captures of the def, from the slots js -/
structure GSc (X : Cx) (scope : Scope) (N : List Str) (tn : Nat) (js : List Nat) : Prop where
  kind : scope.kind = .function
  co : scope.isCoroutine = false
  cell : ∀ y ∈ scope.names, y.2 ≠ .cell
  dot : scope.names.lookup (".0" : Str) = some NameKind.local
  uniq : ∀ y ∈ scope.names, scope.names.lookup y.1 = some y.2
  free : ∀ y ∈ scope.names, y.2 = .free → X.env.kindOf y.1 = some .cell ∨ X.env.kindOf y.1 = some .free
  len : N.length = tn + js.length
  caps : ∀ (i : Nat) (j : Nat), js[i]? = some j → ∃ x, N[tn + i]? = some x ∧ X.N[j]? = some x ∧ scope.names.lookup x = some .free
def gst (tn : Nat) (js : List Nat) (σ : L2.St) : L2.St := List.replicate tn none ++ js.map fun j => (σ[j]?).join
section
variable {X : Cx} {pins : List (Addr × Obj)} {σ : L2.St} {H : Hp} {s : Shared} {scope : Scope} {N : List Str} {tn : Nat} {js : List Nat}
theorem gst_at {i : Nat} {v : V} (h : (gst tn js σ)[i]? = some (some v)) : ∃ k j, i = tn + k ∧ js[k]? = some j ∧ σ[j]? = some (some v) := by
  unfold gst at h
  by_cases hi : i < tn
  · rw [List.getElem?_append_left (by simpa using hi), List.getElem?_replicate, if_pos hi] at h
    cases h
  · rw [List.getElem?_append_right (by simpa using hi), List.length_replicate, List.getElem?_map] at h
    cases e : js[i - tn]? with
    | none => rw [e] at h; cases h
    | some j =>
      rw [e] at h
      have h' : (σ[j]?).join = some v := Option.some.inj h
      refine ⟨i - tn, j, by omega, e, ?_⟩
      cases q : σ[j]? with
      | none => rw [q] at h'; cases h'
      | some w => rw [q] at h'; exact congrArg some h'
theorem clo_look (uniq : ∀ y ∈ scope.names, scope.names.lookup y.1 = some y.2) {cells : List (Str × Addr)} {x : Str} {c : Addr} (h : (cloFrom cells scope.names []).lookup x = some c) : scope.names.lookup x = some .free ∧ c = (cells.lookup x).getD 0 := by
  rcases cloFrom_mem (PySem.mem_of_lookup h) with hm | ⟨h1, h2⟩
  · cases hm
  · exact ⟨uniq _ h1, h2⟩
theorem clo_free {cells : List (Str × Addr)} {x : Str} (uniq : ∀ y ∈ scope.names, scope.names.lookup y.1 = some y.2) (h : scope.names.lookup x = some .free) : (cloFrom cells scope.names []).lookup x = some ((cells.lookup x).getD 0) := by
  obtain ⟨c', e'⟩ := mem_lookup (cloFrom_has (cells := cells) (acc := []) (PySem.mem_of_lookup h))
  rw [e', (clo_look uniq e').2]
/-- the frame of a generator expression, at a turn's start -/
theorem inv_gen {A' : Around} {C Ia : Addr} {code : Value} {s4 s'' : Shared} {H2 : Hp} {pn pins' : List (Addr × Obj)} (S : GSc X scope N tn js) (J : Inv X pins σ H2 s4) (hI : FpOk X pins H2 Ia) (hIl : Ia < s4.heap.objs.size) (hC : C = s4.heap.objs.size)
    (hA : A'.handled = none) (hf : A'.frames = some (genEnv scope (cloFrom X.env.cells scope.names []) C code builtinsNs X.env :: X.stack)) {m : Str → Option Value} (hns : s''.heap.Ns C m)
    (kp : ∀ b o, s4.heap.get? b = some o → s''.heap.get? b = some o) (hos : s''.os = s4.os) (hb : AllBare s''.gens)
    (hp : ∀ p ∈ pn ++ pins', s''.heap.get? p.1 = some p.2 ∧ C < p.1 ∧ ∀ v, p.2.data ≠ .cell v) :
    Inv (gcx X N A' s4 H2 (genEnv scope (cloFrom X.env.cells scope.names []) C code builtinsNs X.env) Ia pn) pins' (gst tn js σ) H2 s'' := by
  subst hC
  have has : ∀ x, scope.names.lookup x = some .free → ∃ c, X.env.cells.lookup x = some c := fun x h => by
    rcases S.free _ (PySem.mem_of_lookup h) rfl with k | k
    · exact J.ok.has _ (.inl k)
    · exact J.ok.has _ (.inr k)
  have cm : ∀ {y c}, (cloFrom X.env.cells scope.names []).lookup y = some c → X.env.cells.lookup y = some c ∧ c < s4.heap.objs.size := fun {y c} hm => by
    obtain ⟨h1, rfl⟩ := clo_look S.uniq hm
    obtain ⟨c, hc⟩ := has _ h1
    rw [hc]
    obtain ⟨w, z⟩ := J.cell _ _ hc
    exact ⟨rfl, z.lt⟩
  have okB : (gcx X N A' s4 H2 (genEnv scope (cloFrom X.env.cells scope.names []) s4.heap.objs.size code builtinsNs X.env) Ia pn).Ok := by
    refine ⟨J.ok.mod, S.kind, J.ok.glob, rfl, Nat.le_refl _, fun x y c e1 e2 => J.ok.inj x y c (cm e1).1 (cm e2).1, fun y hy => ?_, fun y c z e => ?_, fun _ => hA, hf, .inr ⟨rfl, rfl⟩, fun b hb => ⟨?_, fun y c e z => ?_⟩, J.bs, Nat.le_trans J.ok.bsz J.sz,
      fun b o e hb => ?_, fun b hb z => ?_, J.stack, J.stkFree⟩
    · rcases hy with hy | hy
      · exact absurd rfl (S.cell _ (PySem.mem_of_lookup (show scope.names.lookup y = some .cell from hy)))
      · exact ⟨_, clo_free S.uniq hy⟩
    · cases z
    · rw [List.mem_singleton.mp hb]
      exact Nat.ne_of_lt hIl
    · rw [List.mem_singleton.mp hb] at z
      exact hI.2.2.2.2.1 y c (cm e).1 z
    · rw [List.mem_singleton.mp hb] at e
      rcases hI.2.2.2.1 with z | z
      · exact J.ok.noex Ia o e z
      · exact absurd (Nat.lt_of_lt_of_le (Heap.lt_size e) (Nat.le_trans J.ok.bsz z)) (Nat.lt_irrefl _)
    · rw [List.mem_singleton.mp hb] at z
      rcases List.mem_cons.mp (J.stkSub Ia z) with z | z
      · exact hI.2.1 z
      · exact hI.2.2.1 z
  refine ⟨okB, hos, hb, Un.kept kp, ⟨m, hns, fun i y av e1 e2 e3 => ?_⟩, fun y c e => ?_, ?_, fun y c e => J.freeC y c (cm e).1, fun p hp' => ?_, J.hok.kept kp, ?_⟩
  · obtain ⟨k, j, rfl, hj, hσ⟩ := gst_at e2
    obtain ⟨x, h1, h2, h3⟩ := S.caps k j hj
    have e1' : N[tn + k]? = some y := e1
    rw [h1] at e1'
    have exy : x = y := Option.some.inj e1'
    subst exy
    obtain ⟨mm, _, hl⟩ := J.loc
    have hvis : Vis X.env.scope x := (S.free _ (PySem.mem_of_lookup h3) rfl).elim (fun k => .inr (.inl k)) (fun k => .inr (.inr k))
    obtain ⟨w, r, q⟩ := hl j x av h2 hσ hvis
    refine ⟨w, r, .inr ⟨.inr h3, ?_⟩⟩
    obtain ⟨c, hc⟩ := has _ h3
    have hcl : (cloFrom X.env.cells scope.names []).lookup x = some c := by
      rw [clo_free S.uniq h3, hc]
      rfl
    rcases q with ⟨kk, _⟩ | ⟨_, c', e', z⟩
    · rcases S.free _ (PySem.mem_of_lookup h3) rfl with k' | k' <;> rw [show X.env.kindOf x = _ from k'] at kk <;> cases kk
    · rw [hc] at e'
      cases e'
      exact ⟨c, hcl, z.keeps kp⟩
  · obtain ⟨w, z⟩ := J.cell y c (cm e).1
    exact ⟨w, z.keeps kp⟩
  · exact J.hok.fresh (Nat.le_refl _)
  · obtain ⟨h1, h2, h3⟩ := hp p hp'
    have hlt : s4.heap.objs.size ≤ p.1 := Nat.le_of_lt h2
    refine ⟨h1, J.hok.fresh hlt, Nat.ne_of_gt h2, fun z => ?_, h3⟩
    have z' : p.1 ∈ frs X.stack := z
    rcases List.mem_cons.mp (J.stkSub _ z') with e | e
    · have := J.lt
      rw [← e] at this
      exact absurd (Nat.lt_of_lt_of_le this hlt) (Nat.lt_irrefl _)
    · exact J.nofs hlt e
  · show (gst tn js σ).length = N.length
    unfold gst
    rw [List.length_append, List.length_replicate, List.length_map, S.len]
/-- what stands behind the making of a generator -/
structure GMk (X : Cx) (pins : List (Addr × Obj)) (σ : L2.St) (N : List Str) (tn : Nat) (js : List Nat) (scope : Scope) (elt tg iter : Expr) (gpos : Pos) (a : Addr) (H2 : Hp) (s4 s5 : Shared) (code : Value) (Ia ga : Addr) (gn : Nat) (go : Obj) : Prop where
  inv : Inv X pins σ H2 s4
  fp : FpOk X pins H2 Ia
  ne : a ≠ Ia
  it : Ia < s4.heap.objs.size
  lt : s4.heap.objs.size < ga
  sz : s5.heap.objs.size = ga + 1
  cls : go.cls = .type "generator"
  data : ∃ nm qn, go.data = .fields #[.int gn 0, nm, qn]
  slots : go.slots = #[]
  gen : s5.heap.get? ga = some go
  itr : s5.heap.IsListIter Ia a 0
  fresh : s5.gens[gn]? = some (.fresh (.compStart (.GeneratorExp elt [⟨tg, iter, [], 0⟩] scope gpos) 0 (.ref Ia) .none (genEnv scope (cloFrom X.env.cells scope.names []) s4.heap.objs.size code builtinsNs X.env)))
  bare : AllBare s5.gens
  os : s5.os = s4.os
  keep : ∀ b o, s4.heap.get? b = some o → s5.heap.get? b = some o
  ns : ∃ m, s5.heap.Ns s4.heap.objs.size m
theorem ge_make {c P : Addr} {elt tg iter : Expr} {gpos : Pos} {te : TE} {k : Nat} {Q' : Value → Shared → Prop} {R : Addr → List V → Hp → Prop} (hr : Room k X.A) (TB : GxR.TabB X.base X.mg c P) (hcode : X.env.code = .ref c) (S : GSc X scope N tn js) (hi : PE X iter te)
    (hs : ∀ v, genFold iter X.env v = pure v) (I : Inv X pins σ H s) (h : te σ H fun v H1 => ∃ a xs, v = .ref a ∧ SqL X.K H1 a xs ∧ TabG H1 P ∧ R a xs H1)
    (hQ : ∀ a xs H1 H2 s4 s5 code Ia ga gn go, R a xs H1 → SqL X.K H1 a xs → Same H1 H2 → GMk X pins σ N tn js scope elt tg iter gpos a H2 s4 s5 code Ia ga gn go → Q' (.ref ga) s5) :
    wpAny (model X.prog X.w) X.A (eval (.GeneratorExp elt [⟨tg, iter, [], 0⟩] scope gpos) X.env) Q' X.xe s := by
  have hfree : ∀ y ∈ scope.names, y.2 = .free → ∃ c, X.env.cells.lookup y.1 = some c := fun y hy e => by
    rcases S.free y hy e with k | k
    · exact I.ok.has _ (.inl k)
    · exact I.ok.has _ (.inr k)
  refine wpAny_GeneratorExp_make S.co (closure_ok hfree) S.cell S.dot S.kind (by have := hr.dp; omega) ?_ hs
  refine thn (hi.run pins s σ H _ I h) fun xv s1 ⟨v, H1, I1, r1, q1⟩ => ?_
  obtain ⟨a, xs, rfl, hS, ⟨ps, hP, ht⟩, q1⟩ := q1
  obtain rfl : xv = Value.ref a := r1
  obtain ⟨its, rv, hl, hz⟩ := I1.list hS
  refine wpAny_pyIter_list hl.isList ?_
  generalize ho : ({ cls := .type "list_iterator", data := .fields #[.ref a, .int 0 0] } : Obj) = o
  have hitr : (s1.heap.push o).IsListIter s1.heap.objs.size a 0 := by
    subst ho
    exact ⟨_, Heap.get?_push_size _ rfl, rfl, rfl⟩
  have halt : a < s1.heap.objs.size := by
    obtain ⟨_, e, _⟩ := _root_.id hl.isList
    exact Heap.lt_size e
  have hPs : s1.heap.get? P = some { cls := .none, data := .fields ps } := I1.hok P _ hP
  have hPlt : P < s1.heap.objs.size := Heap.lt_size hPs
  have hP2 : (s1.heap.push o).get? P = some { cls := .none, data := .fields ps } := Heap.get?_push_of_some _ hPs
  have cd : PySem.W.CodeHd (s1.heap.push o) c P := TB.code.keeps fun b u e => Heap.get?_push_of_some _ (I1.bk b u e)
  have lim2 : (s1.heap.push o).NoLimit := I1.nolimit.push o
  have fI : ∀ {H' : Hp}, H' s1.heap.objs.size = none → FpOk X pins H' s1.heap.objs.size := fun {H'} hn => I1.fpOk (Nat.le_refl _) hn
  have cont : ∀ (code : Value) (h3 : Heap) (tk : Nat) (H2 : Hp), Inv X pins σ H2 { s1 with heap := h3, toks := tk } → Same H1 H2 → H2 s1.heap.objs.size = none → (∀ b o', b ≠ P → (s1.heap.push o).get? b = some o' → h3.get? b = some o') → (s1.heap.push o).objs.size ≤ h3.objs.size →
      wpAny (model X.prog X.w) X.A (builtinsFor X.env.globals X.env.builtins) (fun bi s₄ => ∀ h', h'.Ns s₄.heap.objs.size (fun y => if y = ".0" then some (.ref s1.heap.objs.size) else none) → Heap.SameBut s₄.heap.objs.size (s₄.heap.push { cls := .type "frame", data := .dict #[] }) h' →
          Q' (.ref h'.objs.size) { s₄ with
            gens := s₄.gens.push (.fresh (.compStart (.GeneratorExp elt [⟨tg, iter, [], 0⟩] scope gpos) 0 (.ref s1.heap.objs.size) .none (genEnv scope (cloFrom X.env.cells scope.names []) s₄.heap.objs.size code bi X.env))),
            toks := s₄.toks + 1 + 1 + 1,
            heap := h'.push { cls := .type "generator", data := .fields #[.int s₄.gens.size 0, .str "<genexpr>" (s₄.toks + 1), .str (X.env.qual ++ "<genexpr>") (s₄.toks + 1 + 1)] } }) X.xe { s1 with heap := h3, toks := tk } := by
    intro code h3 tk H2 J sm nI kp hsz
    obtain ⟨bm, ob, e1, e2, e3, e4, e5, e6, e7, e8⟩ := TB.bm
    refine wpAny_builtinsFor (m := X.mg) (by rw [I1.ok.glob]; exact J.mod.glob.keeps J.bk) e1 e2 (J.bk _ _ e5) e6 e7 e8 ?_
    intro h' hn' hs'
    have sz2 : (s1.heap.push o).objs.size = s1.heap.objs.size + 1 := Heap.size_push ..
    have hIlt : s1.heap.objs.size < h3.objs.size := by omega
    have hsz' : h'.objs.size = h3.objs.size + 1 := by rw [hs'.1, Heap.size_push]
    have keep' : ∀ b o', h3.get? b = some o' → h'.get? b = some o' := fun b o' e => hs'.extBut b o' (Nat.ne_of_lt (Heap.lt_size e)) (Heap.get?_push_of_some _ e)
    have hIP : s1.heap.objs.size ≠ P := Nat.ne_of_gt hPlt
    refine hQ a xs H1 H2 { s1 with heap := h3, toks := tk } _ code s1.heap.objs.size h'.objs.size s1.gens.size _ q1 hS sm ⟨J, fI nI, Nat.ne_of_lt halt, hIlt, ?_, ?_, rfl, ⟨_, _, rfl⟩, rfl, Heap.get?_push_size _ rfl, ?_, Array.getElem?_push_size .., I1.bare.push rfl, rfl, fun b o' e => Heap.get?_push_of_some _ (keep' b o' e), ⟨_, hn'.push _⟩⟩
    · show h3.objs.size < h'.objs.size
      omega
    · rw [Heap.size_push]
    · obtain ⟨oi, e, r⟩ := hitr
      exact ⟨oi, Heap.get?_push_of_some _ (keep' _ _ (kp _ _ hIP e)), r⟩
  refine ⟨lim2, ?_⟩
  have J0 : Inv X pins σ H1 { s1 with heap := s1.heap.push o } := inv_heap I1 fun b u e => Heap.get?_push_of_some _ e
  have nI0 : H1 s1.heap.objs.size = none := I1.hok.fresh (Nat.le_refl _)
  cases hf : codeAmong gpos ps.toList with
  | none =>
    refine wpAny_genexprCodeX hcode (cd.code hP2 ht) (cd.tab hP2) hf fun c' h' tk hx hge hlt hco' _ htab' _ => ?_
    obtain ⟨o1, vs, f1, tf, fl, tg', inF, tx, tt, op, _, _, _, _, _, _, _, _, _, htr, _⟩ := hco'
    have J := GxR.inv_tab (t' := tk) (g' := s1.gens) (d' := s1.drawn) (h' := h') (more := #[rawInt gpos.line, rawInt gpos.col, .ref c']) J0 hP (fun b u hb e => hx b u hb e) htab'.2 I1.bare
    refine cont (.ref c') h' tk _ J (same_tab hP htr) ?_ (fun b u hb e => hx b u hb e) (Nat.le_trans hge (Nat.le_of_lt hlt))
    rw [upd_ne (Nat.ne_of_gt hPlt)]
    exact nI0
  | some cv =>
    refine wpAny_genexprCode_hit hcode (cd.code hP2 ht) hf ?_
    exact cont cv (s1.heap.push o) s1.toks H1 J0 (Same.refl _) nI0 (fun _ _ _ e => e) (Nat.le_refl _)
end
end DR
namespace DR
open PySem PySem.Spec PyProof.Rows L2 GenW
/-- all(elt for target in e), e a list -/
def tAllG (K : PySem.W.Frag) (P : Addr) (tn : Nat) (js : List Nat) (te : TE) (g : TG) (tel : TE) : TE := fun σ H Q => te σ H fun v H1 => ∃ a xs, v = .ref a ∧ SqL K H1 a xs ∧ TabG H1 P ∧ ∀ H2, Same H1 H2 → ∃ W : List V → L2.St → Hp → Prop,
  W [] (gst tn js σ) H2 ∧ (∀ ys σ' H', W ys σ' H' → SqL K H' a xs) ∧
  (∀ ys x σ' H', xs[ys.length]? = some x → W ys σ' H' → g x σ' H' fun σ1 H3 => tel σ1 H3 fun y H4 => ∃ b, y = .bl b ∧ if b = true then W (ys ++ [y]) σ1 H4 else Q (.bl false) H4) ∧
  ∀ ys σ' H', ys.length = xs.length → W ys σ' H' → Q (.bl true) H'
/-- sum(elt for target in e), e a list; vals: the numbers -/
def tSumG (K : PySem.W.Frag) (P : Addr) (tn : Nat) (js : List Nat) (te : TE) (g : TG) (tel : TE) : TE := fun σ H Q => te σ H fun v H1 => ∃ a xs, v = .ref a ∧ SqL K H1 a xs ∧ TabG H1 P ∧ ∀ H2, Same H1 H2 → ∃ (W : List V → L2.St → Hp → Prop) (vals : List Int),
  vals.length = xs.length ∧ W [] (gst tn js σ) H2 ∧ (∀ ys σ' H', W ys σ' H' → SqL K H' a xs) ∧ (∀ ys σ' H', W ys σ' H' → ys = (vals.take ys.length).map V.int) ∧
  (∀ ys x σ' H', xs[ys.length]? = some x → W ys σ' H' → g x σ' H' fun σ1 H3 => tel σ1 H3 fun y H4 => W (ys ++ [y]) σ1 H4) ∧
  ∀ ys σ' H', ys.length = xs.length → W ys σ' H' → Q (.int vals.sum) H'
section
variable {X : Cx} {scope : Scope} {N : List Str} {tn : Nat} {js : List Nat} {c P : Addr} {elt tg iter : Expr} {p pos gpos : Pos} {te tel : TE} {g : TG} {k : Nat}
abbrev geA (X : Cx) (elt tg iter : Expr) (scope : Scope) (gpos : Pos) (Ia : Addr) (cenv : Env) : Around := X.A.in1.in1.over (geC elt tg iter scope gpos Ia cenv) []
theorem geA_room {Ia : Addr} {cenv : Env} (hr : Room (k + 1) X.A) : Room k (geA X elt tg iter scope gpos Ia cenv) := by
  refine ⟨hr.hd, ?_, ?_⟩
  · have := hr.dp
    show X.A.depth + 0 + 1 + 3 * k + 5 < _
    omega
  · have := hr.un
    show X.A.units + 1 + 1 + 0 + 3 + 16 * k + 200 < _
    omega
theorem geA_frames {Ia : Addr} {cenv : Env} (h : X.A.frames = some X.stack) : (geA X elt tg iter scope gpos Ia cenv).frames = some (cenv :: X.stack) := by
  show pushEnvs [cenv] (pushEnvs [] X.A.frames) = _
  rw [h]
  rfl
theorem un_gen {pins pins' : List (Addr × Obj)} {σ σ' : L2.St} {A' : Around} {s4 s' : Shared} {H2 H' : Hp} {cenv : Env} {Ia : Addr} {pn : List (Addr × Obj)} (J : Inv X pins σ H2 s4) (hI : FpOk X pins H2 Ia) (J' : Inv (gcx X N A' s4 H2 cenv Ia pn) pins' σ' H' s') : Inv X pins σ H' s' := by
  refine J.call' (ch := [Ia]) J'.os J'.base J'.hok J'.bare fun b hb => ?_
  rw [List.mem_singleton.mp hb]
  exact ⟨hI.2.2.2.1, hI.2.1, hI.2.2.2.2.1, hI.2.2.2.2.2⟩
theorem pe_allG (hr : Room (k + 1) X.A) (hg : Gl X "all") (hm : X.mg "all" = none) (TB : GxR.TabB X.base X.mg c P) (hcode : X.env.code = .ref c) (S : GSc X scope N tn js) (hi : PE X iter te)
    (hgt : ∀ (A' : Around) (s4 : Shared) (H2 : Hp) (cl : List (Str × Addr)) (C : Addr) (code : Value) (Ia : Addr) (pn : List (Addr × Obj)), PG (gcx X N A' s4 H2 (genEnv scope cl C code builtinsNs X.env) Ia pn) tg g)
    (hel : ∀ (A' : Around) (s4 : Shared) (H2 : Hp) (cl : List (Str × Addr)) (C : Addr) (code : Value) (Ia : Addr) (pn : List (Addr × Obj)), Room k A' → PE (gcx X N A' s4 H2 (genEnv scope cl C code builtinsNs X.env) Ia pn) elt tel)
    (hs : ∀ v, genFold iter X.env v = pure v := by intro _; rfl) (hb : bootBuiltins "all" = some (.builtin "all") := by decide +kernel)
    (he : starEach [.GeneratorExp elt [⟨tg, iter, [], 0⟩] scope gpos] X.env = (false, eval (.GeneratorExp elt [⟨tg, iter, [], 0⟩] scope gpos) X.env) :: starEach [] X.env := by rfl) :
    PE X (.Call (.Name "all" p) [.GeneratorExp elt [⟨tg, iter, [], 0⟩] scope gpos] [] pos) (tAllG X.K P tn js te g tel) := by
  refine ⟨fun pins s σ H Q I h => ?_⟩
  refine wpAny_Call_Name_kw (ld_blt I hg hm hb ?_)
  refine PyProof.Rows.callWith_builtin1 ?_ he (by rfl)
  rw [he]
  show wpAny _ _ (spliced ((false, eval (.GeneratorExp elt [⟨tg, iter, [], 0⟩] scope gpos) X.env) :: backTo pos (starEach [] X.env))) _ _ s
  refine Calls.spliced_cons (ge_make hr TB hcode S hi hs I h fun a xs H1 H2 s4 s5 code Ia ga gn go hR hS sm G => ?_)
  refine Calls.spliced_nil ?_
  obtain ⟨W, w0, wl, wt, we⟩ := hR H2 sm
  obtain ⟨nm, qn, hgd⟩ := G.data
  obtain ⟨m, hns⟩ := G.ns
  have hfr := G.fresh
  generalize hce : genEnv scope (cloFrom X.env.cells scope.names []) s4.heap.objs.size code builtinsNs X.env = cenv at *
  have hA : (geA X elt tg iter scope gpos Ia cenv).handled = none := hr.hd
  have J5 : Inv (gcx X N (geA X elt tg iter scope gpos Ia cenv) s4 H2 cenv Ia [(ga, go)]) [] (gst tn js σ) H2 s5 := by
    have := inv_gen (code := code) (s'' := s5) (pn := [(ga, go)]) (pins' := []) S G.inv G.fp G.it rfl hA (by rw [hce]; exact geA_frames I.ok.frames) hns G.keep G.os G.bare fun p hp => by
      have hp : p = (ga, go) := by simpa using hp
      subst hp
      exact ⟨G.gen, G.lt, fun v q => by rw [hgd] at q; cases q⟩
    rw [hce] at this
    exact this
  have hpn : GePn (gcx X N (geA X elt tg iter scope gpos Ia cenv) s4 H2 cenv Ia [(ga, go)]) ga gn := ⟨go, nm, qn, List.mem_singleton.mpr rfl, G.cls, hgd, G.slots⟩
  have hga : ga ≠ Ia := Nat.ne_of_gt (Nat.lt_trans G.it G.lt)
  have hgen : s5.heap.IsGen ga gn := hpn.isGen J5
  have hsg : ∀ (pn : List (Addr × Obj)), PG (gcx X N (geA X elt tg iter scope gpos Ia cenv) s4 H2 cenv Ia pn) tg g := fun pn => by rw [← hce]; exact hgt _ _ _ _ _ _ _ _
  have hse : ∀ (pn : List (Addr × Obj)), PE (gcx X N (geA X elt tg iter scope gpos Ia cenv) s4 H2 cenv Ia pn) elt tel := fun pn => by
    have := hel (geA X elt tg iter scope gpos Ia cenv) s4 H2 (cloFrom X.env.cells scope.names []) s4.heap.objs.size code Ia pn (geA_room hr)
    rw [hce] at this
    exact this
  have hsc : cenv.scope = scope := by rw [← hce]; rfl
  refine call_function_tree F.kind_all F.plain_all F.entry_all (F.args_all1 _) ?_
  unfold Builtin.«all»
  refine wpAny_bind (m := oneArg "all" _) (wpAny_pure ?_)
  refine wpAny_bind (wpAny_pyIter_gen hgen ?_)
  refine wpAny_pure ⟨plainId_quiet F.plain_all_loop _, ?_⟩
  refine all_ge (Y := gcx X N (geA X elt tg iter scope gpos Ia cenv) s4 H2 cenv Ia [(ga, go)]) (I := Ia) (a := a) (W := W) (N := xs.length) (QF := fun _ H' => Q (.bl false) H') hr.hd (by have := hr.dp; show X.A.depth < _; omega) hpn
    (fun σ' H' s' J' q => ⟨.bl false, H', un_gen G.inv G.fp J', rfl, q⟩) (fun ys σ' H' s' hl J' w => ⟨.bl true, H', un_gen G.inv G.fp J', rfl, we ys σ' H' hl w⟩) _ [] (gst tn js σ) H2 s5 rfl ⟨⟨J5, G.fp.1, G.itr⟩, w0, _, hfr, fun s'' h'' w'' => ⟨rfl, ?_⟩⟩
  refine seg_geStart (Y := gcx X N (geA X elt tg iter scope gpos Ia cenv) s4 H2 cenv Ia [(ga, go)]) (ys := []) h''.2.2 ?_
  exact seg_ge (Y := gcx X N (geA X elt tg iter scope gpos Ia cenv) s4 H2 cenv Ia [(ga, go)]) (So := none) (W := W) rfl hA (by rw [hsc]; exact S.co) (List.mem_singleton.mpr rfl) G.ne (fun p hp => by rw [List.mem_singleton.mp hp]; exact hga) (fun z => by cases z) (fun _ _ z => z) (hsg _) (hse _) wl wt
    xs.length [] s'' s'' (gst tn js σ) H2 rfl h'' w''
theorem pe_sumG (hr : Room (k + 1) X.A) (hg : Gl X "sum") (hm : X.mg "sum" = none) (TB : GxR.TabB X.base X.mg c P) (hcode : X.env.code = .ref c) (S : GSc X scope N tn js) (hi : PE X iter te)
    (hgt : ∀ (A' : Around) (s4 : Shared) (H2 : Hp) (cl : List (Str × Addr)) (C : Addr) (code : Value) (Ia : Addr) (pn : List (Addr × Obj)), PG (gcx X N A' s4 H2 (genEnv scope cl C code builtinsNs X.env) Ia pn) tg g)
    (hel : ∀ (A' : Around) (s4 : Shared) (H2 : Hp) (cl : List (Str × Addr)) (C : Addr) (code : Value) (Ia : Addr) (pn : List (Addr × Obj)), Room k A' → PE (gcx X N A' s4 H2 (genEnv scope cl C code builtinsNs X.env) Ia pn) elt tel)
    (hs : ∀ v, genFold iter X.env v = pure v := by intro _; rfl) (hb : bootBuiltins "sum" = some (.builtin "sum") := by decide +kernel)
    (he : starEach [.GeneratorExp elt [⟨tg, iter, [], 0⟩] scope gpos] X.env = (false, eval (.GeneratorExp elt [⟨tg, iter, [], 0⟩] scope gpos) X.env) :: starEach [] X.env := by rfl) :
    PE X (.Call (.Name "sum" p) [.GeneratorExp elt [⟨tg, iter, [], 0⟩] scope gpos] [] pos) (tSumG X.K P tn js te g tel) := by
  refine ⟨fun pins s σ H Q I h => ?_⟩
  refine wpAny_Call_Name_kw (ld_blt I hg hm hb ?_)
  refine PyProof.Rows.callWith_builtin1 ?_ he (by rfl)
  rw [he]
  show wpAny _ _ (spliced ((false, eval (.GeneratorExp elt [⟨tg, iter, [], 0⟩] scope gpos) X.env) :: backTo pos (starEach [] X.env))) _ _ s
  refine Calls.spliced_cons (ge_make hr TB hcode S hi hs I h fun a xs H1 H2 s4 s5 code Ia ga gn go hR hS sm G => ?_)
  refine Calls.spliced_nil ?_
  obtain ⟨W, vals, hvl, w0, wl, wv, wt, we⟩ := hR H2 sm
  obtain ⟨nm, qn, hgd⟩ := G.data
  obtain ⟨m, hns⟩ := G.ns
  have hfr := G.fresh
  generalize hce : genEnv scope (cloFrom X.env.cells scope.names []) s4.heap.objs.size code builtinsNs X.env = cenv at *
  have hA : (geA X elt tg iter scope gpos Ia cenv).handled = none := hr.hd
  have hsz5 := G.sz
  have hlt5 := G.lt
  have hgen0 : s5.heap.IsGen ga gn := ⟨go, nm, qn, G.gen, G.cls, hgd, G.slots⟩
  have hpn : GePn (gcx X N (geA X elt tg iter scope gpos Ia cenv) s4 H2 cenv Ia [(ga, go)]) ga gn := ⟨go, nm, qn, List.mem_singleton.mpr rfl, G.cls, hgd, G.slots⟩
  have hga : ga ≠ Ia := Nat.ne_of_gt (Nat.lt_trans G.it G.lt)
  have hIlt := G.it
  have hg5 : ga < s5.heap.objs.size := by rw [hsz5]; exact Nat.lt_succ_self _
  have h45 : s4.heap.objs.size < s5.heap.objs.size := Nat.lt_trans hlt5 hg5
  have hSI : s5.heap.objs.size ≠ Ia := Nat.ne_of_gt (Nat.lt_trans hIlt h45)
  have hsg : ∀ (pn : List (Addr × Obj)), PG (gcx X N (geA X elt tg iter scope gpos Ia cenv) s4 H2 cenv Ia pn) tg g := fun pn => by rw [← hce]; exact hgt _ _ _ _ _ _ _ _
  have hse : ∀ (pn : List (Addr × Obj)), PE (gcx X N (geA X elt tg iter scope gpos Ia cenv) s4 H2 cenv Ia pn) elt tel := fun pn => by
    have := hel (geA X elt tg iter scope gpos Ia cenv) s4 H2 (cloFrom X.env.cells scope.names []) s4.heap.objs.size code Ia pn (geA_room hr)
    rw [hce] at this
    exact this
  have hsc : cenv.scope = scope := by rw [← hce]; rfl
  have hloc : cenv.locals = s4.heap.objs.size := by rw [← hce]; rfl
  have hcells : cenv.cells = cloFrom X.env.cells scope.names [] := by rw [← hce]; rfl
  refine call_function_tree F.kind_sum F.plain_sum F.entry_sum (F.args_sum1 _) ?_
  unfold Builtin.«sum»
  simp only [List.length_cons, List.length_nil]
  rw [if_neg (by decide)]
  refine wpAny_bind (wpAny_of_eq (show Builtin.Builtins.bindParams "sum" ["start"] 0 { } = pure [none] from rfl) ?_)
  refine wpAny_bind (wpAny_pyIter_gen hgen0 ?_)
  refine wpAny_bind (wpAny_mkInt ?_)
  refine wpAny_bind (wpAny_pure ?_)
  simp only [List.forIn_cons, List.forIn_nil]
  refine wpAny_bind (wpAny_bind (wpAny_bind (wpAny_isInstance (T := "int") (b := false) (typeIs_int _ _ _) PySem.sub_int_str ?_)))
  simp only [Bool.false_eq_true, if_false]
  refine wpAny_pure (wpAny_bind (wpAny_bind (wpAny_isInstance (T := "int") (b := false) (typeIs_int _ _ _) PySem.sub_int_bytes ?_)))
  simp only [Bool.false_eq_true, if_false]
  refine wpAny_pure (wpAny_bind (wpAny_bind (wpAny_isInstance (T := "int") (b := false) (typeIs_int _ _ _) PySem.sub_int_bytearray ?_)))
  simp only [Bool.false_eq_true, if_false]
  refine wpAny_pure (wpAny_pure ?_)
  refine wpAny_bind (wpAny_newObj_type ?_)
  refine wpAny_pure ⟨plainId_quiet F.plain_sum_loop _, ?_⟩
  have kp6 : ∀ (o : Obj) b ob, s5.heap.get? b = some ob → (s5.heap.push o).get? b = some ob := fun o b ob e => Heap.get?_push_of_some _ e
  generalize hlo : ({ cls := .type "list", data := .seq #[.int 0 s5.toks] } : Obj) = lo
  generalize htk : s5.toks + 1 = tk
  have hget : (s5.heap.push lo).get? s5.heap.objs.size = some lo := by
    subst hlo
    exact Heap.get?_push_size _ rfl
  have hlod : ∀ v, lo.data ≠ .cell v := fun v q => by rw [← hlo] at q; cases q
  have J5 : Inv (gcx X N (geA X elt tg iter scope gpos Ia cenv) s4 H2 cenv Ia [(ga, go)]) [(s5.heap.objs.size, lo)] (gst tn js σ) H2 { s5 with heap := s5.heap.push lo, toks := tk } := by
    have := inv_gen (code := code) (s'' := { s5 with heap := s5.heap.push lo, toks := tk }) (pn := [(ga, go)]) (pins' := [(s5.heap.objs.size, lo)]) S G.inv G.fp G.it rfl hA (by rw [hce]; exact geA_frames I.ok.frames) (hns.push lo) (fun b ob e => kp6 lo b ob (G.keep b ob e)) G.os G.bare fun p hp => by
      have hp : p = (ga, go) ∨ p = (s5.heap.objs.size, lo) := by simpa using hp
      rcases hp with rfl | rfl
      · exact ⟨kp6 lo _ _ G.gen, G.lt, fun v q => by rw [hgd] at q; cases q⟩
      · exact ⟨hget, h45, hlod⟩
    rw [hce] at this
    exact this
  have hAp : Apart (gcx X N (geA X elt tg iter scope gpos Ia cenv) s4 H2 cenv Ia [(ga, go)]) s5.heap.objs.size := by
    refine ⟨Nat.le_of_lt h45, by show s5.heap.objs.size ≠ cenv.locals; rw [hloc]; exact Nat.ne_of_gt h45, fun x cc e z => ?_⟩
    obtain ⟨w, q⟩ := J5.cell x cc e
    have e' : cenv.cells.lookup x = some cc := e
    rw [hcells] at e'
    obtain ⟨f1, f2⟩ := clo_look S.uniq e'
    obtain ⟨cc', hcc⟩ : ∃ cc', X.env.cells.lookup x = some cc' := by
      rcases S.free _ (PySem.mem_of_lookup f1) rfl with k | k
      · exact I.ok.has _ (.inl k)
      · exact I.ok.has _ (.inr k)
    rw [hcc] at f2
    obtain ⟨w', q'⟩ := G.inv.cell _ _ hcc
    have := q'.lt
    have f3 : cc = cc' := f2
    have h5 : s5.heap.objs.size < s4.heap.objs.size := by rw [← z, f3]; exact q'.lt
    exact Nat.lt_irrefl _ (Nat.lt_trans h45 h5)
  have hS6 : (s5.heap.push lo).get? s5.heap.objs.size = some { cls := .type "list", dict := none, data := .seq #[.int (vals.take ([] : List V).length).sum s5.toks] 0, slots := #[] } := by
    rw [hget, ← hlo]
    simp
  have eP : pinsOf (some s5.heap.objs.size) { s5 with heap := s5.heap.push lo, toks := tk } = [(s5.heap.objs.size, lo)] := pinsOf_some hget
  have hit6 : (s5.heap.push lo).IsListIter Ia a 0 := by
    obtain ⟨oi, e, r⟩ := G.itr
    exact ⟨oi, kp6 lo _ _ e, r⟩
  refine codeAny_mono (sum_ge (Y := gcx X N (geA X elt tg iter scope gpos Ia cenv) s4 H2 cenv Ia [(ga, go)]) (I := Ia) (a := a) (W := W) (N := xs.length) (S := s5.heap.objs.size) (vals := vals)
    (R := fun r s' => match r with | .ok (.ret v) => EP X pins σ Q v s' | _ => False) hvl hr.hd (by have := hr.dp; show X.A.depth < _; omega) hpn
    (fun p hp => by rw [List.mem_singleton.mp hp]; exact Nat.ne_of_lt hg5) hAp hSI wv
    (fun ys σ' H' s' t hl J' w => ⟨.int (vals.take xs.length).sum, H', un_gen G.inv G.fp J', ⟨t, rfl⟩, by rw [List.take_of_length_le (by omega)]; exact we ys σ' H' hl w⟩)
    _ [] (gst tn js σ) H2 { s5 with heap := s5.heap.push lo, toks := tk } s5.toks 0 0 rfl (.inl rfl) hS6 ⟨⟨by rw [eP]; exact J5, G.fp.1, hit6⟩, w0, _, hfr, fun s'' h'' w'' => ⟨rfl, ?_⟩⟩) fun r s' hq => ?_
  · refine seg_geStart (Y := gcx X N (geA X elt tg iter scope gpos Ia cenv) s4 H2 cenv Ia [(ga, go)]) (ys := []) h''.2.2 ?_
    exact seg_ge (Y := gcx X N (geA X elt tg iter scope gpos Ia cenv) s4 H2 cenv Ia [(ga, go)]) (So := some s5.heap.objs.size) (W := W) rfl hA (by rw [hsc]; exact S.co) (List.mem_singleton.mpr rfl) G.ne (fun p hp => by rw [List.mem_singleton.mp hp]; exact hga) (fun z => hSI (Option.some.inj z)) (fun _ _ z => z) (hsg _) (hse _) wl wt
      xs.length [] s'' s'' (gst tn js σ) H2 rfl h'' w''
  · cases r with
    | error e => exact hq.elim
    | ok fl =>
      cases fl with
      | ret v => exact hq
      | next => exact hq.elim
      | brk => exact hq.elim
      | cont => exact hq.elim
end
end DR
namespace DR
open PySem PySem.Spec PyProof.Rows L2
/-! ### rules of our own -/
section
variable {X : Cx}
/-- xs[i] of a list, by values, for xs[i] op= e -/
def rGetL (K : PySem.W.Frag) : V → V → Hp → VK → Prop := fun o i H Q => ∃ p xs k v, o = .ref p ∧ i = .int k ∧ SqL K H p xs ∧ 0 ≤ k ∧ atI xs k = some v ∧ Q v H
theorem get_list : PGet X (rGetL X.K) := by
  intro pins s σ H x y v u Q I rx ry h
  obtain ⟨p, xs, i, z, rfl, rfl, hq, h0, he, q⟩ := h
  cases rx
  obtain ⟨t, rfl⟩ := ry
  obtain ⟨its, r, pl, hz⟩ := I.list hq
  obtain ⟨j, h1, h2, h3, h4, h5⟩ := atI_get he
  obtain ⟨w, ew, rw'⟩ := r.get h2
  have hn := line63
  have hj : i.toNat = j := by
    rw [seqIndex_of h0 h5] at h1
    exact Option.some.inj h1
  exact wpAny_getItem_list pl.isList h0 (by omega) (by rw [hj]; simpa using ew) ⟨z, H, I, rw', q⟩
/-- a op1 b op2 c op3 d -/
def tChain3 (r r' r'' : R2) (ta tb tc td : TE) : TE := fun σ H Q => ta σ H fun x H1 => tb σ H1 fun y H2 => r x y H2 fun z H3 => ∃ k, z = .bl k ∧
  (if k = true then tc σ H3 fun y' H4 => r' y y' H4 fun z' H5 => ∃ k', z' = .bl k' ∧ (if k' = true then td σ H5 fun w' H6 => r'' y' w' H6 Q else Q (.bl false) H5) else Q (.bl false) H3)
theorem pe_chain3 {op op' op'' : CmpOp} {r r' r'' : R2} {a b c d : Expr} {ta tb tc td : TE} {pos : Pos} (ho : OpR X (compareOp op) r) (ho' : OpR X (compareOp op') r') (ho'' : OpR X (compareOp op'') r'') (ha : PE X a ta) (hb : PE X b tb) (hc : PE X c tc) (hd : PE X d td)
    (hm : lastMarks [op, op', op''] [b, c, d] = false := by with_unfolding_all rfl) : PE X (.Compare a [op, op', op''] [b, c, d] pos) (tChain3 r r' r'' ta tb tc td) := by
  refine ⟨fun pins s σ H Q I h => ?_⟩
  refine Compare_chain (thn (ha.run pins s σ H _ I h) fun v s1 ⟨x, H1, I1, r1, q1⟩ => chain_link (thn (hb.run pins s1 σ H1 _ I1 q1) fun u s2 ⟨y, H2, I2, r2, q2⟩ =>
    thn (ho pins s2 σ H2 x y v u _ I2 r1 r2 q2) fun d' s3 ⟨z, H3, I3, r3, k, e, q3⟩ => ?_)) hm
  subst e
  cases r3
  refine wpAny_truthy_bool ?_
  cases k with
  | false => exact ite_ff ⟨.bl false, H3, I3, rfl, q3⟩
  | true =>
    refine ite_tt (chain_link (thn (hc.run pins s3 σ H3 _ I3 q3) fun w' s4 ⟨y', H4, I4, r4, q4⟩ => thn (ho' pins s4 σ H4 y y' u w' _ I4 r2 r4 q4) fun d2 s5 ⟨z', H5, I5, r5, k', e', q5⟩ => ?_))
    subst e'
    cases r5
    refine wpAny_truthy_bool ?_
    cases k' with
    | false => exact ite_ff ⟨.bl false, H5, I5, rfl, q5⟩
    | true => exact ite_tt (chain_last (thn (hd.run pins s5 σ H5 _ I5 q5) fun w2 s6 ⟨z2, H6, I6, r6, q6⟩ => ho'' pins s6 σ H6 y' z2 w' w2 Q I6 r4 r6 q6))
theorem pt_chain3 {op op' op'' : CmpOp} {r r' r'' : R2} {a b c d : Expr} {ta tb tc td : TE} {pos : Pos} (ho : OpR X (compareOp op) r) (ho' : OpR X (compareOp op') r') (ho'' : OpR X (compareOp op'') r'') (ha : PE X a ta) (hb : PE X b tb) (hc : PE X c tc) (hd : PE X d td)
    (hm : lastMarks [op, op', op''] [b, c, d] = false := by with_unfolding_all rfl) : PT X (.Compare a [op, op', op''] [b, c, d] pos) (tTest (tChain3 r r' r'' ta tb tc td)) := by
  refine ⟨fun pins s σ H Q I h => ?_⟩
  refine isTrue_chain (thn (ha.run pins s σ H _ I h) fun v s1 ⟨x, H1, I1, r1, q1⟩ => test_link (thn (hb.run pins s1 σ H1 _ I1 q1) fun u s2 ⟨y, H2, I2, r2, q2⟩ =>
    thn (ho pins s2 σ H2 x y v u _ I2 r1 r2 q2) fun d' s3 ⟨z, H3, I3, r3, k, e, q3⟩ => ?_)) hm
  subst e
  cases r3
  refine wpAny_truthy_bool ?_
  cases k with
  | false =>
    obtain ⟨k', e', q'⟩ := q3
    cases e'
    exact ite_ff ⟨H3, I3, q'⟩
  | true =>
    refine ite_tt (test_link (thn (hc.run pins s3 σ H3 _ I3 q3) fun w' s4 ⟨y', H4, I4, r4, q4⟩ => thn (ho' pins s4 σ H4 y y' u w' _ I4 r2 r4 q4) fun d2 s5 ⟨z', H5, I5, r5, k', e', q5⟩ => ?_))
    subst e'
    cases r5
    refine wpAny_truthy_bool ?_
    cases k' with
    | false =>
      obtain ⟨k2, e2, q'⟩ := q5
      cases e2
      exact ite_ff ⟨H5, I5, q'⟩
    | true =>
      refine ite_tt (test_last (thn (hd.run pins s5 σ H5 _ I5 q5) fun w2 s6 ⟨z2, H6, I6, r6, q6⟩ => thn (ho'' pins s6 σ H6 y' z2 w' w2 _ I6 r4 r6 q6) fun d3 s7 ⟨z3, H7, I7, r7, k3, e3, q7⟩ => ?_))
      subst e3
      cases r7
      exact wpAny_truthy_bool ⟨H7, I7, q7⟩
/-- * of two ints of not too many bits together -/
def CMulB (i j : Int) : Prop := IntMulOk i j
theorem op_mulB : OpR X (binaryOp .Mult) (rI CMulB fun i j => .int (i * j)) := opI fun _ _ _ _ _ _ _ hc q => mul_int q hc
end
/-! ### heaps -/
theorem same_new {H : Hp} {p : Addr} {o : HO} (h : H p = none) : Same H (upd H p o) := .of fun b x e => by
  rw [upd_ne (ne_of_none e h)]
  exact e
/-- an object that H does not know may change -/
theorem smut {H H' : Hp} {p : Addr} {o : HO} (e : Same H H') (h : H p = none) : Same H (upd H' p o) := by
  refine ⟨fun a u n ha => ?_, fun a ps ha => ?_⟩
  · rw [upd_ne (ne_of_none ha h)]
    exact e.keep a u n ha
  · rw [upd_ne (ne_of_none ha h)]
    exact e.tab a ps ha
theorem stup {K : PySem.W.Frag} {H H' : Hp} {a : Addr} {xs : List V} (e : Same H H') (h : SqT K H a xs) : SqT K H' a xs := by
  rcases h with (h | ⟨o, h⟩) | h
  · exact .inl (.inl (e _ _ h))
  · exact .inl (.inr ⟨o, e _ _ h⟩)
  · exact .inr h
theorem line_of {n : Nat} (h : n ≤ 100000) : n ≤ sizeLine := Nat.le_trans h (by decide)
theorem line_lt {n : Nat} (h : n < 100000) : n < sizeLine := Nat.lt_of_lt_of_le h (by decide)
theorem map_at {ns : List Int} {i : Nat} {x : V} (h : (ns.map V.int)[i]? = some x) : ∃ z, ns[i]? = some z ∧ x = .int z := by
  rw [List.getElem?_map] at h
  cases e : ns[i]? with
  | none => rw [e] at h; cases h
  | some z =>
    rw [e] at h
    exact ⟨z, rfl, (Option.some.inj h).symm⟩
theorem ref_at {as : List Addr} {i : Nat} {x : V} (h : (as.map V.ref)[i]? = some x) : ∃ z, as[i]? = some z ∧ x = .ref z := by
  rw [List.getElem?_map] at h
  cases e : as[i]? with
  | none => rw [e] at h; cases h
  | some z =>
    rw [e] at h
    exact ⟨z, rfl, (Option.some.inj h).symm⟩
theorem at_map {α : Type} {f : α → V} {xs : List α} {i : Nat} {x : α} (h : xs[i]? = some x) : (xs.map f)[i]? = some (f x) := by
  rw [List.getElem?_map, h]; rfl
theorem at_lt {α : Type} {xs : List α} {i : Nat} {x : α} (h : xs[i]? = some x) : i < xs.length := (List.getElem?_eq_some_iff.mp h).1
theorem cut_nat (xs : List V) (k : Nat) : cutV xs none (some (k : Int)) = xs.take k := by
  unfold cutV
  rw [HT.sIx_none, HT.sIx_nat, List.drop_zero, Nat.sub_zero]
  by_cases h : k ≤ xs.length
  · rw [Nat.min_eq_left h]
  · rw [Nat.min_eq_right (by omega), List.take_length, List.take_of_length_le (by omega)]
theorem cut_from (xs : List V) (k : Nat) : cutV xs (some (k : Int)) none = xs.drop k := by
  unfold cutV
  rw [HT.sIx_none, HT.sIx_nat]
  by_cases h : k ≤ xs.length
  · rw [Nat.min_eq_left h, List.take_of_length_le (by rw [List.length_drop]; omega)]
  · rw [Nat.min_eq_right (by omega), Nat.sub_self, List.take_zero, List.drop_of_length_le (by omega)]
theorem cut_last (xs : List V) (v : V) : cutV (xs ++ [v]) none (some (-1)) = xs := by
  unfold cutV
  rw [HT.sIx_none, List.drop_zero, Nat.sub_zero]
  have e : HT.sIx (xs ++ [v]).length (xs ++ [v]).length (some (-1)) = xs.length := by
    show (if (-1 : Int) < 0 then ((-1 : Int) + ((xs ++ [v]).length : Int)).toNat else min (-1 : Int).toNat (xs ++ [v]).length) = xs.length
    rw [if_pos (by decide), List.length_append, List.length_singleton]
    omega
  rw [e, List.take_left]
theorem ixN_nat {n k : Nat} (h : k < n) : ixN n (k : Int) = some k := by
  unfold ixN
  rw [if_pos (by omega), if_pos (by omega), Int.toNat_natCast]
theorem small_of {x : Int} {n : Nat} (h0 : 0 ≤ x) (h : x < 2 ^ n) : Builtin.Int.intBits x ≤ n := by
  rw [intBits_le_iff]
  have e : ((2 ^ n : Nat) : Int) = (2 : Int) ^ n := Int.natCast_pow 2 n
  omega
/-! ### deeds in the heap -/
def tri (d : Deed) : List V := [.int d.1, .int d.2.1, .int d.2.2]
structure DsAt (H : Hp) (as : List Addr) (ds : List Deed) : Prop where
  len : as.length = ds.length
  at_ : ∀ (j : Nat) (a : Addr), as[j]? = some a → ∃ d, ds[j]? = some d ∧ H a = some (.tup (tri d))
section
variable {H H' : Hp} {as bs : List Addr} {ds es : List Deed} {a : Addr} {d : Deed}
theorem DsAt.same (h : DsAt H as ds) (s : Same H H') : DsAt H' as ds := ⟨h.len, fun j a e => let ⟨d, h1, h2⟩ := h.at_ j a e; ⟨d, h1, s _ _ h2⟩⟩
theorem DsAt.nil : DsAt H [] [] := ⟨rfl, fun j a e => by simp at e⟩
theorem DsAt.append (h : DsAt H as ds) (k : DsAt H bs es) : DsAt H (as ++ bs) (ds ++ es) := by
  refine ⟨by rw [List.length_append, List.length_append, h.len, k.len], fun j a e => ?_⟩
  by_cases hj : j < as.length
  · rw [List.getElem?_append_left hj] at e
    obtain ⟨d, h1, h2⟩ := h.at_ j a e
    exact ⟨d, by rw [List.getElem?_append_left (by rw [← h.len]; exact hj)]; exact h1, h2⟩
  · rw [List.getElem?_append_right (by omega)] at e
    obtain ⟨d, h1, h2⟩ := k.at_ _ a e
    exact ⟨d, by rw [List.getElem?_append_right (by rw [← h.len]; omega), ← h.len]; exact h1, h2⟩
theorem DsAt.one (e : H a = some (.tup (tri d))) : DsAt H [a] [d] := ⟨rfl, fun j b h => by
  match j, h with
  | 0, h =>
    have : a = b := Option.some.inj h
    subst this
    exact ⟨d, rfl, e⟩
  | j + 1, h => simp at h⟩
theorem DsAt.snoc (h : DsAt H as ds) (e : H a = some (.tup (tri d))) : DsAt H (as ++ [a]) (ds ++ [d]) := h.append (DsAt.one e)
theorem DsAt.upd {c : Addr} {xs : List V} {o : HO} (h : DsAt H as ds) (hc : H c = some (.lst xs)) : DsAt (upd H c o) as ds := ⟨h.len, fun j b e => let ⟨d, h1, h2⟩ := h.at_ j b e; ⟨d, h1, by rw [upd_ne (ne_of h2 hc (by intro q; cases q))]; exact h2⟩⟩
theorem DsAt.take (h : DsAt H as ds) (n : Nat) : DsAt H (as.take n) (ds.take n) := by
  refine ⟨by rw [List.length_take, List.length_take, h.len], fun j a e => ?_⟩
  rw [List.getElem?_take] at e
  by_cases hj : j < n
  · rw [if_pos hj] at e
    obtain ⟨d, h1, h2⟩ := h.at_ j a e
    exact ⟨d, by rw [List.getElem?_take, if_pos hj]; exact h1, h2⟩
  · rw [if_neg hj] at e; cases e
theorem DsAt.drop (h : DsAt H as ds) (n : Nat) : DsAt H (as.drop n) (ds.drop n) := by
  refine ⟨by rw [List.length_drop, List.length_drop, h.len], fun j a e => ?_⟩
  rw [List.getElem?_drop] at e
  obtain ⟨d, h1, h2⟩ := h.at_ _ a e
  exact ⟨d, by rw [List.getElem?_drop]; exact h1, h2⟩
end
theorem DeedsOk.take {n : Int} {ds : List Deed} (h : DeedsOk n ds) (k : Nat) : DeedsOk n (ds.take k) := fun d hd => h d (List.mem_of_mem_take hd)
theorem DeedsOk.drop {n : Int} {ds : List Deed} (h : DeedsOk n ds) (k : Nat) : DeedsOk n (ds.drop k) := fun d hd => h d (List.mem_of_mem_drop hd)
/-! ### data, for == and != -/
def dI (ns : List Int) : PyData := .list (ns.map .int)
def dD (d : Deed) : PyData := .tuple [.int d.1, .int d.2.1, .int d.2.2]
def dDs (ds : List Deed) : PyData := .list (ds.map dD)
theorem dp_ints {K : PySem.W.Frag} {H : Hp} : ∀ ns : List Int, DpAll K H (ns.map V.int) (ns.map PyData.int)
  | [] => .nil
  | x :: r => .cons (.int x) (dp_ints r)
theorem dp_lst {K : PySem.W.Frag} {H : Hp} {a : Addr} {ns : List Int} (h : SqL K H a (ns.map V.int)) : Dp K H (.ref a) (dI ns) := .lst h (dp_ints ns)
theorem dp_dsAll {K : PySem.W.Frag} {H : Hp} : ∀ {as : List Addr} {ds : List Deed}, DsAt H as ds → DpAll K H (as.map V.ref) (ds.map dD)
  | [], [], _ => .nil
  | [], _ :: _, h => nomatch h.len
  | _ :: _, [], h => nomatch h.len
  | a :: r, d :: t, h => by
    obtain ⟨d', e1, e2⟩ := h.at_ 0 a rfl
    have e : d = d' := Option.some.inj e1
    subst e
    exact .cons (.tup (.inl (.inl e2)) (.cons (.int _) (.cons (.int _) (.cons (.int _) .nil)))) (dp_dsAll ⟨Nat.succ.inj h.len, fun j b q => h.at_ (j + 1) b q⟩)
theorem dp_ds {K : PySem.W.Frag} {H : Hp} {p : Addr} {as : List Addr} {ds : List Deed} (h : SqL K H p (as.map V.ref)) (hd : DsAt H as ds) : Dp K H (.ref p) (dDs ds) := .lst h (dp_dsAll hd)
theorem lay_ints : ∀ ns : List Int, PyData.canLayAll0 (ns.map PyData.int) = true
  | [] => by simp only [List.map_nil, PyData.canLayAll0]
  | x :: r => by simp only [List.map_cons, PyData.canLayAll0, PyData.canLay0, lay_ints r, Bool.and_self]
theorem dep_ints : ∀ ns : List Int, PyData.depthAll (ns.map PyData.int) = 0
  | [] => by simp only [List.map_nil, PyData.depthAll]
  | x :: r => by simp only [List.map_cons, PyData.depthAll, PyData.depth, dep_ints r, Nat.max_self]
theorem lay_dI (ns : List Int) : (dI ns).canLay0 = true := by unfold dI; simp only [PyData.canLay0]; exact lay_ints ns
theorem dep_dI (ns : List Int) : (dI ns).depth = 1 := by unfold dI; simp only [PyData.depth, dep_ints]
theorem sh_dI (ns : List Int) : SeqAt.shaped (dI ns) = true := by
  unfold SeqAt.shaped
  rw [lay_dI, dep_dI]; rfl
theorem lay_dDs (ds : List Deed) : (dDs ds).canLay0 = true := by
  unfold dDs
  simp only [PyData.canLay0]
  induction ds with
  | nil => simp only [List.map_nil, PyData.canLayAll0]
  | cons d r ih => simp only [List.map_cons, PyData.canLayAll0, dD, PyData.canLay0, ih, Bool.and_self]
theorem dep_dDs (ds : List Deed) : (dDs ds).depth ≤ 2 := by
  unfold dDs
  simp only [PyData.depth]
  refine Nat.succ_le_succ ?_
  induction ds with
  | nil => simp only [List.map_nil, PyData.depthAll]; omega
  | cons d r ih =>
    simp only [List.map_cons, PyData.depthAll]
    refine Nat.max_le.mpr ⟨?_, ih⟩
    simp only [dD, PyData.depth, PyData.depthAll, Nat.max_self]
    omega
theorem sh_dDs (ds : List Deed) : SeqAt.shaped (dDs ds) = true := by
  unfold SeqAt.shaped
  rw [lay_dDs, decide_eq_true (Nat.le_trans (dep_dDs ds) (by decide))]; rfl
theorem eqvAll_ints : ∀ ns ms : List Int, PyData.eqvAll (ns.map .int) (ms.map .int) = decide (ns = ms)
  | [], [] => by simp only [List.map_nil, PyData.eqvAll, decide_true]
  | [], _ :: _ => by simp [PyData.eqvAll]
  | _ :: _, [] => by simp [PyData.eqvAll]
  | x :: r, y :: t => by
    simp only [List.map_cons, PyData.eqvAll, PyData.eqv]
    rw [eqvAll_ints r t, Bool.beq_eq_decide_eq, ← Bool.decide_and]
    exact decide_eq_decide.mpr (by rw [List.cons.injEq])
theorem eqv_dI (ns ms : List Int) : PyData.eqv (dI ns) (dI ms) = decide (ns = ms) := by
  unfold dI
  simp only [PyData.eqv]
  exact eqvAll_ints ns ms
/-! ### kinds -/
/-- whether a value is a whole number, as is_number says -/
inductive NumB (K : PySem.W.Frag) (H : Hp) : V → Bool → Prop
  | int (i : Int) : NumB K H (.int i) true
  | bl (b : Bool) : NumB K H (.bl b) false
  | non : NumB K H .non false
  | str (x : Str) : NumB K H (.str x) false
  | lst {a : Addr} {xs : List V} (h : SqL K H a xs) : NumB K H (.ref a) false
  | tup {a : Addr} {xs : List V} (h : SqT K H a xs) : NumB K H (.ref a) false
theorem ty_lst {K : PySem.W.Frag} {H : Hp} {a : Addr} {xs : List V} (h : SqL K H a xs) : TyX K H (.ref a) (.type "list") := by
  rcases h with (h | ⟨o, h⟩) | ⟨o, its, n, hk, hc, _⟩
  · exact .base (.lst h)
  · exact .base (.frz h)
  · exact .kList hk hc
theorem ty_tup {K : PySem.W.Frag} {H : Hp} {a : Addr} {xs : List V} (h : SqT K H a xs) : TyX K H (.ref a) (.type "tuple") := by
  rcases h with (h | ⟨o, h⟩) | ⟨o, its, n, hk, hc, _⟩
  · exact .base (.tup h)
  · exact .fTuple h
  · exact .kTuple hk hc
/-- the module's names that are still the built-in ones -/
structure Blt (mg : Str → Option Value) : Prop where
  isi : mg "isinstance" = none
  int : mg "int" = none
  bool : mg "bool" = none
  list : mg "list" = none
  tuple : mg "tuple" = none
  len : mg "len" = none
  enumerate : mg "enumerate" = none
  sum : mg "sum" = none
  range : mg "range" = none
  all : mg "all" = none
/-! ### defs and calls in short -/
/-- the def x of the text stands where its name says -/
def Def (K : PySem.W.Frag) (mg : Str → Option Value) (x : Str) (st : Stmt) (ps : List Str) : Prop := ∃ f fd, Fun K x x st f fd ∧ mg x = some (.ref f) ∧ Binds K fd ps []
/-- x keeps the promise sp, and nothing is raised -/
def Callee (P : Program) (w : World) (K : PySem.W.Frag) (mg : Str → Option Value) (base : Heap) (k : Nat) (x : Str) (ps : List Str) (sp : Sp) : Prop :=
  ∃ f fd, mg x = some (.ref f) ∧ PySem.W.keepIn K (.ref f) = true ∧ Binds K fd ps [] ∧ (∃ oc od osl, K.lookup f = some ⟨oc, od, .func fd, osl⟩) ∧ FnOk P w K mg base CX0 k f fd ps sp
section
variable {P : Program} {w : World} {K : PySem.W.Frag} {mg : Str → Option Value} {base : Heap}
theorem Def.ok {x : Str} {st : Stmt} {N ps : List Str} {k : Nat} {sp : Sp} (D : Def K mg x st ps) (S : FnScope N ps (defScope st)) (len : ∀ vs H Q E, sp vs H Q E → vs.length = ps.length)
    (hbody : ∀ (f : Addr) (cdv : Value) (A : Around) (outer : List Env) (s : Shared) (H : Hp) (vs : List V) (Q : VK) (E : XK), Room k (A.deeper (envOfC x (defScope st) s.heap.objs.size f cdv)) → sp vs H Q E →
      ∃ t, PSs (cxOf CX0 P w K mg base N x (defScope st) f cdv A outer s H E).nox (defBody st) t ∧ t { nx := fun _ H' => Q .non H', rt := Q } (start N vs) H) : Callee P w K mg base (k + 1) x ps sp := by
  obtain ⟨f, fd, F, g, b⟩ := D
  have lk : ∃ oc od osl, K.lookup f = some ⟨oc, od, .func fd, osl⟩ := by
    obtain ⟨oc, od, kV, doc, pm, an, cdv, ct, osl, rfl, lk, _⟩ := F.ex
    exact ⟨oc, od, osl, lk⟩
  exact ⟨f, fd, g, F.kp, b, lk, F.ok S len fun cdv A outer s H vs Q E hr h => hbody f cdv A outer s H vs Q E hr h⟩
theorem Callee.imp {x : Str} {ps : List Str} {k : Nat} {sp sp' : Sp} (C : Callee P w K mg base k x ps sp) (h : ∀ vs H Q E, sp' vs H Q E → sp vs H Q E) : Callee P w K mg base k x ps sp' := by
  obtain ⟨f, fd, h1, h2, h3, lk, h4⟩ := C
  exact ⟨f, fd, h1, h2, h3, lk, h4.imp h⟩
end
theorem pe_c {X : Cx} {k : Nat} {x : Str} {ps : List Str} {sp : Sp} {p pos : Pos} {e : Expr} {es : List Expr} {t : TA} (C : Callee X.prog X.w X.K X.mg X.base k x ps sp) (hr : Room k X.A) (hg : Gl X x) (ha : PA X (e :: es) t)
    (hdb : (x == ("__debug__" : Str)) = false := by decide) (he : starEach (e :: es) X.env = (false, eval e X.env) :: starEach es X.env := by rfl) (hpl : (backTo pos (starEach es X.env)).any (·.1) = false := by rfl) :
    PE X (.Call (.Name x p) (e :: es) [] pos) (tCall sp [] E0 t) := by
  obtain ⟨f, fd, h1, h2, h3, _, h4⟩ := C
  exact pe_call h4 hr hg h1 h2 h3 .nil pass0 ha hdb he hpl
/-- from the facts that the top leaves -/
theorem def_mk {K : PySem.W.Frag} {h : Heap} {mg : Str → Option Value} {x : Str} {st : Stmt} {ps : List Str} {f : Addr} {oc : Value} {od an : Option Addr} {osl : Array (Option Value)} {kV doc pm cdv ct : Value} (X : K.In h) (G : h.Ns mainGlobals mg)
    (a : PySem.W.nsIn K mainGlobals x = some (some (.ref f))) (l : K.lookup f = some ⟨oc, od, .func (PySem.W.fnOf x x (defArgs st) (defBody st) (defScope st) .none kV doc pm an cdv ct), osl⟩)
    (c : PySem.W.codeIn K cdv x = true) (k : PySem.W.keepIn K (.ref f) = true)
    (hb : ∀ (kV doc pm : Value) (an : Option Addr) (cdv ct : Value) (us : List Value), us.length = ps.length → bindArgs (PySem.W.fnOf x x (defArgs st) (defBody st) (defScope st) .none kV doc pm an cdv ct) ⟨us, []⟩ = pure (ps.zip us)) : Def K mg x st ps :=
  ⟨f, _, fun_mk l c k, PySem.W.mg_of X G a, (fun_mk l c k).binds hb⟩
/-- the promise of a def that stands at f -/
theorem Callee.at {P : Program} {w : World} {K : PySem.W.Frag} {mg : Str → Option Value} {base : Heap} {k : Nat} {x : Str} {ps : List Str} {sp : Sp} {f : Addr} {fd : FuncData} {oc : Value} {od : Option Addr} {osl : Array (Option Value)}
    (C : Callee P w K mg base k x ps sp) (g : mg x = some (.ref f)) (l : K.lookup f = some ⟨oc, od, .func fd, osl⟩) : FnOk P w K mg base CX0 k f fd ps sp := by
  obtain ⟨f', fd', h1, _, _, ⟨oc', od', osl', lk⟩, h4⟩ := C
  rw [g] at h1
  cases h1
  rw [l] at lk
  cases lk
  exact h4
theorem isi_ty {K : PySem.W.Frag} {H : Hp} {Q : VK} {x : V} {T C : String} {r : Bool} (ty : TyX K H x (.type T)) (h : kitB T C = some r) (q : Q (.bl r) H) : rIsi K [x, .ty C] H Q := ⟨x, .ty C, _, _, r, rfl, .ty C, ty, kit_ty h, q⟩
end DR
namespace DR
open PySem PySem.Spec PyProof.Rows L2
structure Blt2 (mg : Str → Option Value) : Prop where
  zip : mg "zip" = none
  min : mg "min" = none
  abs : mg "abs" = none
structure Blt3 (mg : Str → Option Value) : Prop where
  sorted : mg "sorted" = none
/-! ### the scope of a generator expression, by a look -/
def gscB (sc scope : Scope) (XN N : List Str) (tn : Nat) (js : List Nat) : Bool :=
  decide (scope.kind = .function) && (!scope.isCoroutine && (scope.names.all (fun y => decide (y.2 ≠ .cell)) && (decide (scope.names.lookup (".0" : Str) = some NameKind.local) && (scope.names.all (fun y => decide (scope.names.lookup y.1 = some y.2)) &&
    (scope.names.all (fun y => decide (y.2 ≠ .free) || decide (sc.names.lookup y.1 = some .cell)) && (decide (N.length = tn + js.length) && (List.range js.length).all fun i => match js[i]?, N[tn + i]? with
      | some j, some x => decide (XN[j]? = some x) && decide (scope.names.lookup x = some .free)
      | _, _ => false))))))
theorem gsc_by {X : Cx} {sc scope : Scope} {XN N : List Str} {tn : Nat} {js : List Nat} (hs : X.env.scope = sc) (hN : X.N = XN) (h : gscB sc scope XN N tn js = true) : GSc X scope N tn js := by
  subst hN
  unfold gscB at h
  simp only [Bool.and_eq_true, decide_eq_true_eq, List.all_eq_true, Bool.or_eq_true, Bool.not_eq_true', List.mem_range] at h
  obtain ⟨h1, h2, h3, h4, h5, h6, h7, h8⟩ := h
  refine ⟨h1, h2, h3, h4, h5, fun y hy e => ?_, h7, fun i j hj => ?_⟩
  · rcases h6 y hy with z | z
    · exact absurd e z
    · exact .inl (by unfold Env.kindOf; rw [hs]; exact z)
  · have hi := (List.getElem?_eq_some_iff.mp hj).1
    have q := h8 i hi
    rw [hj] at q
    cases e : N[tn + i]? with
    | none => rw [e] at q; cases q
    | some x =>
      rw [e] at q
      simp only [Bool.and_eq_true, decide_eq_true_eq] at q
      exact ⟨x, rfl, q.1, q.2⟩
/-! ### a def with its code object told -/
def DefT (K : PySem.W.Frag) (mg : Str → Option Value) (x : Str) (st : Stmt) (ps : List Str) (c : Addr) : Prop :=
  ∃ (f : Addr) (oc : Value) (od : Option Addr) (kV doc pm : Value) (an : Option Addr) (ct : Value) (osl : Array (Option Value)), K.lookup f = some ⟨oc, od, .func (PySem.W.fnOf x x (defArgs st) (defBody st) (defScope st) .none kV doc pm an (.ref c) ct), osl⟩ ∧
    PySem.W.codeIn K (.ref c) x = true ∧ PySem.W.keepIn K (.ref f) = true ∧ mg x = some (.ref f) ∧ Binds K (PySem.W.fnOf x x (defArgs st) (defBody st) (defScope st) .none kV doc pm an (.ref c) ct) ps []
section
variable {P : Program} {w : World} {K : PySem.W.Frag} {mg : Str → Option Value} {base : Heap}
theorem DefT.ok {x : Str} {st : Stmt} {N ps : List Str} {k : Nat} {sp : Sp} {c : Addr} (D : DefT K mg x st ps c) (S : FnScope N ps (defScope st)) (len : ∀ vs H Q E, sp vs H Q E → vs.length = ps.length)
    (hbody : ∀ (f : Addr) (A : Around) (outer : List Env) (s : Shared) (H : Hp) (vs : List V) (Q : VK) (E : XK), Room k (A.deeper (envOfC x (defScope st) s.heap.objs.size f (.ref c))) → sp vs H Q E →
      ∃ t, PSs (cxOf CX0 P w K mg base N x (defScope st) f (.ref c) A outer s H E).nox (defBody st) t ∧ t { nx := fun _ H' => Q .non H', rt := Q } (start N vs) H) : Callee P w K mg base (k + 1) x ps sp := by
  obtain ⟨f, oc, od, kV, doc, pm, an, ct, osl, lk, hcd, hk, g, b⟩ := D
  refine ⟨f, _, g, hk, b, ⟨oc, od, osl, lk⟩, fn_of lk hcd S len fun A outer s H vs Q E hr hsp => ?_⟩
  obtain ⟨t, h, q⟩ := hbody f A outer s H vs Q E hr hsp
  exact ⟨t, h.nox, q⟩
theorem defT_mk {h : Heap} {x : Str} {st : Stmt} {ps : List Str} {f c : Addr} {oc : Value} {od an : Option Addr} {osl : Array (Option Value)} {kV doc pm ct : Value} (X : K.In h) (G : h.Ns mainGlobals mg)
    (a : PySem.W.nsIn K mainGlobals x = some (some (.ref f))) (l : K.lookup f = some ⟨oc, od, .func (PySem.W.fnOf x x (defArgs st) (defBody st) (defScope st) .none kV doc pm an (.ref c) ct), osl⟩)
    (hc : PySem.W.codeIn K (.ref c) x = true) (k : PySem.W.keepIn K (.ref f) = true)
    (hb : ∀ (kV doc pm : Value) (an : Option Addr) (cdv ct : Value) (us : List Value), us.length = ps.length → bindArgs (PySem.W.fnOf x x (defArgs st) (defBody st) (defScope st) .none kV doc pm an cdv ct) ⟨us, []⟩ = pure (ps.zip us)) : DefT K mg x st ps c :=
  ⟨f, oc, od, kV, doc, pm, an, ct, osl, l, hc, k, PySem.W.mg_of X G a, .all (hb kV doc pm an _ ct)⟩
end
theorem NumB.same {K : PySem.W.Frag} {H H' : Hp} {x : V} {b : Bool} (h : NumB K H x b) (s : Same H H') : NumB K H' x b := by
  cases h with
  | int i => exact .int i
  | bl b => exact .bl b
  | non => exact .non
  | str z => exact .str z
  | lst h => exact .lst (s.seq h)
  | tup h => exact .tup (stup s h)
/-- the list of what was so far, in a generator expression over few slots -/
theorem all_take {bs : List Bool} {i : Nat} {b : Bool} (h : bs[i]? = some b) : (bs.take (i + 1)).all _root_.id = ((bs.take i).all _root_.id && b) := by
  rw [List.take_add_one, h]
  simp
end DR
namespace DR
open PySem PySem.Spec PyProof.Rows L2
/-- the end of a law's row: of each def that is asked for, where its code object's table lies, empty -/
theorem walk_ofD {l : PySem.W.OpenLaw} {n k : Nat} {q : Program} {loose : List Str} {XP : (Str → Option Value) → Heap → Prop} {YP : World → Heap → Prop} {d : DefRec} {K : Params → PySem.W.Frag} {CX : World → CXT} {x : Str}
    (hn : l.most = some n) (hn2 : n ≤ sizeLine) (hdf : d.params.defaults = []) (hr : Room k callerA) (hY : ∀ (w : World) (h : Heap), YP w h → (K w.params).In h)
    (F : ∀ (w : World) (mg : Str → Option Value) (fa : Addr) (h : Heap), YP w h → (K w.params).In h → h.Ns mainGlobals mg → mg d.name = some (.ref fa) →
      (∀ (y : Str) (c P : Addr), ((recsOf q).find? fun e => e.name == y).isSome = true → PySem.W.tabIn (K w.params) y = some (c, P) → PySem.W.CodeHd h c P ∧ h.get? P = some { cls := .none, data := .fields #[] }) → LamX.LawAtS l w (K w.params) (CX w) k n x mg fa h)
    (hCX : ∀ (w : World) (H : Hp) (s : Shared) (e : Value) (s' : Shared), CX w [] H s (fun _ _ _ => False) e s' → False) :
    PySem.W.WalkO q loose XP YP l.row.toRowW d [] (fun f vs => PySem.call f vs) := by
  refine Att.attach_callB hn hdf fun w s₀ s₁ mg mb fa o pm cd doc a vs ns G Y ho hd hcd hmg hobj hints hlen hbits hg => ?_
  have KX := hY w _ Y
  obtain ⟨fd, cs, sp, hT, nT, C, hb, hsp, hF⟩ := F w mg fa _ Y KX G.T.g hmg fun y c P hr ht => by
    obtain ⟨d', hd'⟩ := Option.isSome_iff_exists.mp hr
    exact PySem.W.tab_of G.T KX hd' ht
  exact LamX.law_callTs KX G.T.g G.T.b G.T.builtins G.T.nolimit hg hT nT C G.T.bmain hobj hints (Nat.le_trans hlen hn2) hr hF hb (fun H hH hS => hsp H a ns hlen hbits hH hS) fun H e s' => hCX w H s₁ e s'
theorem tabG_nil {H : Hp} {P : Addr} (h : H P = some (.tbl #[])) : TabG H P := ⟨#[], h, True.intro⟩
theorem tabs_of {H : Hp} {cs : List (Addr × Addr)} (h : ∀ p ∈ cs, H p.2 = some (.tbl #[])) : Tabs (cs.map (·.2)) H := fun P hP => by
  obtain ⟨p, hp, e⟩ := List.mem_map.mp hP
  rw [← e]
  exact tabG_nil (h p hp)
theorem tb_of {base : Heap} {mg : Str → Option Value} {c P : Addr} (t : LamX.TabB base mg c P) : GxR.TabB base mg c P := ⟨t.code, t.bm, t.gP⟩
end DR
namespace DR
open PySem PySem.Spec PyProof.Rows L2
theorem tabIn_of {K : PySem.W.Frag} {x : Str} {f c P : Addr} {oc e : Value} {od dd : Option Addr} {fd : FuncData} {osl sl : Array (Option Value)} {vs : Array Value} (a : PySem.W.nsIn K mainGlobals x = some (some (.ref f))) (l : K.lookup f = some ⟨oc, od, .func fd, osl⟩)
    (hc : fd.code = .ref c) (lc : K.lookup c = some ⟨e, dd, .fields vs, sl⟩) (v : vs[11]? = some (.ref P)) : PySem.W.tabIn K x = some (c, P) := by
  unfold PySem.W.tabIn
  rw [a]
  dsimp only
  rw [l]
  dsimp only
  rw [hc]
  dsimp only
  rw [lc]
  dsimp only
  rw [v]
end DR
namespace DR
open PySem PySem.Spec PyProof.Rows L2
/-! ### the text by places -/
def topS (i : Nat) : Stmt := PySem.Challenge.pw_dialrow_k01_whole_turned.main.body.getD i (.Pass ⟨0, 0, 0, 0⟩)
abbrev cDialError : Stmt := topS 1
abbrev cBadSize : Stmt := topS 2
abbrev cBadRow : Stmt := topS 3
abbrev cBadDeeds : Stmt := topS 4
abbrev sNum : Stmt := topS 6
abbrev sSize : Stmt := topS 7
abbrev sRow : Stmt := topS 8
abbrev sDeed : Stmt := topS 9
abbrev sAre : Stmt := topS 10
abbrev sDeeds : Stmt := topS 11
abbrev sTurned : Stmt := topS 12
abbrev lSize : Stmt := topS 14
abbrev lRow : Stmt := topS 15
abbrev lNumbers : Stmt := topS 16
abbrev lTurned : Stmt := topS 17
abbrev lBound : Stmt := topS 18
abbrev lBest : Stmt := topS 19
abbrev lDeeds : Stmt := topS 20
abbrev sLaw : Stmt := topS 21
end DR
namespace DR
open PySem PySem.Spec PyProof.Rows L2
def spNum (K : PySem.W.Frag) : Sp := fun vs H Q _ => ∃ x b, vs = [x] ∧ NumB K H x b ∧ Q (.bl b) H
def spSize : Sp := fun vs H Q _ => ∃ m : Int, vs = [.int m] ∧ 2 ≤ m ∧ Q .non H
def spRow (K : PySem.W.Frag) : Sp := fun vs H Q _ => ∃ (m : Int) (a : Addr) (ns : List Int), vs = [.int m, .ref a] ∧ SqL K H a (ns.map V.int) ∧ RowOk m ns ∧ Q .non H
section
variable {P : Program} {w : World} {K : PySem.W.Frag} {mg : Str → Option Value} {base : Heap}
theorem scNum : FnScope ["thing"] ["thing"] (defScope sNum) := ⟨rfl, rfl, rfl, by decide +kernel, rfl, by decide +kernel, by decide +kernel⟩
theorem ok_num (D : Def K mg "is_number" sNum ["thing"]) (B : Blt mg) : Callee P w K mg base 1 "is_number" ["thing"] (spNum K) := by
  refine D.ok scNum (fun vs H Q E h => ?_) (fun f cdv A outer s H vs Q E hr h => ?_)
  · obtain ⟨x, b, rfl, _⟩ := h
    rfl
  · obtain ⟨x, b, rfl, hn, q⟩ := h
    refine ⟨_, pss_one (ps_ret (pe_and (pe_callB call_isi (by rfl) B.isi boot_isinstance (pa_cons (pv 0) (pa_cons (pe_bltn (v := .ty "int") (by rfl) B.int PyProof.Rows.boot_int rfl) pa_nil)))
      (pe_one (pe_not (pe_callB call_isi (by rfl) B.isi boot_isinstance (pa_cons (pv 0) (pa_cons (pe_bltn (v := .ty "bool") (by rfl) B.bool PyProof.Rows.boot_bool rfl) pa_nil))))))), ?_⟩
    cases hn with
    | int i => exact ⟨_, rfl, ⟨_, _, _, _, true, rfl, .ty _, (.base (.int i)), kit_ty (by decide +kernel), ⟨true, rfl, iteT ⟨_, rfl, ⟨_, _, _, _, false, rfl, .ty _, (.base (.int i)), kit_ty (by decide +kernel), ⟨false, rfl, q⟩⟩⟩⟩⟩⟩
    | bl b => exact ⟨_, rfl, ⟨_, _, _, _, true, rfl, .ty _, (.base (.bl b)), kit_ty (by decide +kernel), ⟨true, rfl, iteT ⟨_, rfl, ⟨_, _, _, _, true, rfl, .ty _, (.base (.bl b)), kit_ty (by decide +kernel), ⟨true, rfl, q⟩⟩⟩⟩⟩⟩
    | non => exact ⟨_, rfl, ⟨_, _, _, _, false, rfl, .ty _, (.base .non), kit_ty (by decide +kernel), ⟨false, rfl, iteF q⟩⟩⟩
    | str z => exact ⟨_, rfl, ⟨_, _, _, _, false, rfl, .ty _, (.base (.str z)), kit_ty (by decide +kernel), ⟨false, rfl, iteF q⟩⟩⟩
    | lst h => exact ⟨_, rfl, ⟨_, _, _, _, false, rfl, .ty _, (ty_lst h), kit_ty (by decide +kernel), ⟨false, rfl, iteF q⟩⟩⟩
    | tup h => exact ⟨_, rfl, ⟨_, _, _, _, false, rfl, .ty _, (ty_tup h), kit_ty (by decide +kernel), ⟨false, rfl, iteF q⟩⟩⟩
theorem scSize : FnScope ["size"] ["size"] (defScope sSize) := ⟨rfl, rfl, rfl, by decide +kernel, rfl, by decide +kernel, by decide +kernel⟩
theorem ok_size (D : Def K mg "check_size" sSize ["size"]) (GN : Callee P w K mg base 1 "is_number" ["thing"] (spNum K)) : Callee P w K mg base 2 "check_size" ["size"] spSize := by
  refine D.ok scSize (fun vs H Q E h => ?_) (fun f cdv A outer s H vs Q E hr h => ?_)
  · obtain ⟨m, rfl, _⟩ := h
    rfl
  · obtain ⟨m, rfl, hm, q⟩ := h
    refine ⟨_, pss_one (ps_if (PW.pt (pw_or (pt_not (pt_val (pe_c GN hr (by rfl) (pa_cons (pv 0) pa_nil)))) (pw_or1 (pt_cmpR op_lt (pv 0) pe_int (nomark _))))) (pss_one ps_never) pss_nil), ?_⟩
    refine ⟨_, rfl, _, _, rfl, .int m, true, rfl, iteF ⟨_, rfl, m, 2, rfl, rfl, _, rfl, ?_⟩⟩
    rw [decide_eq_false (by omega)]
    exact iteF q
theorem scRow : FnScope ["size", "row", "figure"] ["size", "row"] (defScope sRow) := ⟨rfl, rfl, rfl, by decide +kernel, rfl, by decide +kernel, by decide +kernel⟩
theorem ok_row (D : Def K mg "check_row" sRow ["size", "row"]) (B : Blt mg) (GN : Callee P w K mg base 1 "is_number" ["thing"] (spNum K)) : Callee P w K mg base 2 "check_row" ["size", "row"] (spRow K) := by
  refine D.ok scRow (fun vs H Q E h => ?_) (fun f cdv A outer s H vs Q E hr h => ?_)
  · obtain ⟨m, a, ns, rfl, _⟩ := h
    rfl
  · obtain ⟨m, a, ns, rfl, hS, hR, q⟩ := h
    refine ⟨_, pss_cons (ps_if (pt_not (pt_val (pe_callB call_isi (by rfl) B.isi boot_isinstance (pa_cons (pv 1) (pa_cons (pe_bltn (v := .ty "list") (by rfl) B.list PyProof.Rows.boot_list rfl) pa_nil))))) (pss_one ps_never) pss_nil)
      (pss_one (ps_for PassesOwn.never rfl (pi_list (pv 1)) (pg_name (i := 2) scRow.nd rfl (.inl rfl))
        (pss_one (ps_if (PW.pt (pw_or (pt_not (pt_val (pe_c GN hr (by rfl) (pa_cons (pv 2) pa_nil)))) (pw_or (pt_cmpR op_lt (pv 2) pe_int (nomark _)) (pw_or1 (pt_cmpR op_ge (pv 2) (pv 0) (nomark _)))))) (pss_one ps_never) pss_nil)))), ?_⟩
    refine ⟨_, rfl, ⟨_, _, _, _, true, rfl, .ty _, (ty_lst hS), kit_ty (by decide +kernel), ⟨true, rfl, iteF ?_⟩⟩⟩
    refine ⟨_, rfl, a, rfl, ⟨_, hS⟩, for_list (K := K) (a := a) (xs := ns.map V.int) (fun i σ H2 => (∃ v, σ = [some (.int m), some (.ref a), v]) ∧ H2 = H) ⟨⟨none, rfl⟩, rfl⟩ (fun i σ H2 _ h => by rw [h.2]; exact hS) ?_ ?_⟩
    · rintro i y σ H2 hi ⟨⟨v, rfl⟩, rfl⟩
      obtain ⟨z, hz, rfl⟩ := map_at hi
      obtain ⟨h1, h2⟩ := hR z (List.mem_of_getElem? hz)
      refine ⟨_, rfl, _, _, rfl, .int z, true, rfl, iteF ⟨_, rfl, z, 0, rfl, rfl, _, rfl, ?_⟩⟩
      rw [decide_eq_false (by omega)]
      refine iteF ⟨_, rfl, _, rfl, z, m, rfl, rfl, _, rfl, ?_⟩
      rw [decide_eq_false (by omega)]
      exact iteF ⟨⟨_, rfl⟩, rfl⟩
    · rintro σ H2 ⟨⟨v, rfl⟩, rfl⟩
      exact q
end
end DR
namespace DR
open PySem PySem.Spec PyProof.Rows L2
def deedB (n : Int) (d : Deed) : Bool := decide (0 ≤ d.1) && (decide (d.1 < d.2.1) && (decide (d.2.1 ≤ n) && decide (d.2.2 ≠ 0)))
theorem deedB_ok {n : Int} {d : Deed} (h : DeedOk n d) : deedB n d = true := by
  obtain ⟨h1, h2, h3, h4⟩ := h
  unfold deedB
  rw [decide_eq_true h1, decide_eq_true h2, decide_eq_true h3, decide_eq_true h4]; rfl
section
variable {P : Program} {w : World} {K : PySem.W.Frag} {mg : Str → Option Value} {base : Heap}
theorem scDeed : FnScope ["dials", "thing", "first", "end", "steps"] ["dials", "thing"] (defScope sDeed) := ⟨rfl, rfl, rfl, by decide +kernel, rfl, by decide +kernel, by decide +kernel⟩
end
end DR
namespace DR
open PySem PySem.Spec PyProof.Rows L2
/-- no tuple, of the sorts that are asked with -/
inductive NotT (K : PySem.W.Frag) (H : Hp) : V → Prop
  | int (i : Int) : NotT K H (.int i)
  | bl (b : Bool) : NotT K H (.bl b)
  | non : NotT K H .non
  | str (x : Str) : NotT K H (.str x)
  | lst {a : Addr} {xs : List V} (h : SqL K H a xs) : NotT K H (.ref a)
/-- whether a thing is a deed of n dials -/
inductive DeedB (K : PySem.W.Frag) (H : Hp) (n : Int) : V → Bool → Prop
  | no {y : V} (h : NotT K H y) : DeedB K H n y false
  | len {a : Addr} {xs : List V} (h : SqT K H a xs) (hl : xs.length ≠ 3) : DeedB K H n (.ref a) false
  | sort {a : Addr} {x y z : V} {bx by' bz : Bool} (h : SqT K H a [x, y, z]) (hx : NumB K H x bx) (hy : NumB K H y by') (hz : NumB K H z bz) (hb : (bx && (by' && bz)) = false) : DeedB K H n (.ref a) false
  | deed {a : Addr} {x y z : Int} (h : SqT K H a [.int x, .int y, .int z]) : DeedB K H n (.ref a) (deedB n (x, y, z))
def spDeedB (K : PySem.W.Frag) : Sp := fun vs H Q _ => ∃ (n : Int) (v : V) (b : Bool), vs = [.int n, v] ∧ DeedB K H n v b ∧ Q (.bl b) H
section
variable {P : Program} {w : World} {K : PySem.W.Frag} {mg : Str → Option Value} {base : Heap} {C : Addr}
theorem ok_deedB (D : Def K mg "is_deed" sDeed ["dials", "thing"]) (B : Blt mg) (GN : Callee P w K mg base 1 "is_number" ["thing"] (spNum K)) : Callee P w K mg base 2 "is_deed" ["dials", "thing"] (spDeedB K) := by
  refine D.ok scDeed (fun vs H Q E h => ?_) (fun f cdv A outer s H vs Q E hr h => ?_)
  · obtain ⟨n, v, b, rfl, _⟩ := h
    rfl
  · obtain ⟨n, v, b, rfl, hB, q⟩ := h
    refine ⟨_, pss_cons (ps_if (PW.pt (pw_or (pt_not (pt_val (pe_callB call_isi (by rfl) B.isi boot_isinstance (pa_cons (pv 1) (pa_cons (pe_bltn (v := .ty "tuple") (by rfl) B.tuple PyProof.Rows.boot_tuple rfl) pa_nil)))))
        (pw_or1 (pt_cmpR op_ne (pe_callB call_len_seq (by rfl) B.len PySem.boot_len (pa_cons (pv 1) pa_nil)) pe_int (nomark _))))) (pss_one (ps_ret pe_bl)) pss_nil)
      (pss_cons (ps_asg (pv 1) (pg_tup (by rfl) (pgs_cons (pg_name (i := 2) scDeed.nd rfl (.inl rfl)) (pgs_cons (pg_name (i := 3) scDeed.nd rfl (.inl rfl)) (pgs_cons (pg_name (i := 4) scDeed.nd rfl (.inl rfl)) pgs_nil)))))
      (pss_cons (ps_if (PW.pt (pw_or (pt_not (pt_val (pe_c GN hr (by rfl) (pa_cons (pv 2) pa_nil)))) (pw_or (pt_not (pt_val (pe_c GN hr (by rfl) (pa_cons (pv 3) pa_nil)))) (pw_or1 (pt_not (pt_val (pe_c GN hr (by rfl) (pa_cons (pv 4) pa_nil)))))))) (pss_one (ps_ret pe_bl)) pss_nil)
      (pss_one (ps_ret (pe_and (pe_chain3 op_le op_lt op_le pe_int (pv 2) (pv 3) (pv 0)) (pe_one (pe_cmpR op_ne (pv 4) pe_int (nomark _)))))))), ?_⟩
    cases hB with
    | no h =>
      cases h with
      | int i => exact ⟨_, rfl, ⟨_, _, _, _, false, rfl, .ty _, .base (.int i), kit_ty (by decide +kernel), ⟨false, rfl, iteT q⟩⟩⟩
      | bl b => exact ⟨_, rfl, ⟨_, _, _, _, false, rfl, .ty _, .base (.bl b), kit_ty (by decide +kernel), ⟨false, rfl, iteT q⟩⟩⟩
      | non => exact ⟨_, rfl, ⟨_, _, _, _, false, rfl, .ty _, .base .non, kit_ty (by decide +kernel), ⟨false, rfl, iteT q⟩⟩⟩
      | str z => exact ⟨_, rfl, ⟨_, _, _, _, false, rfl, .ty _, .base (.str z), kit_ty (by decide +kernel), ⟨false, rfl, iteT q⟩⟩⟩
      | lst h => exact ⟨_, rfl, ⟨_, _, _, _, false, rfl, .ty _, ty_lst h, kit_ty (by decide +kernel), ⟨false, rfl, iteT q⟩⟩⟩
    | len h hl =>
      refine ⟨_, rfl, ⟨_, _, _, _, true, rfl, .ty _, (ty_tup h), kit_ty (by decide +kernel), ⟨true, rfl, iteF ⟨_, rfl, _, _, rfl, .inr h, rfl, _, rfl, ?_⟩⟩⟩⟩
      rw [decide_eq_false (fun e => hl (by have := V.int.inj e; omega))]
      exact iteT q
    | sort h hx hy hz hb =>
      refine ⟨_, rfl, ⟨_, _, _, _, true, rfl, .ty _, (ty_tup h), kit_ty (by decide +kernel), ⟨true, rfl, iteF ⟨_, rfl, _, _, rfl, .inr h, rfl, _, rfl, iteF ?_⟩⟩⟩⟩
      refine ⟨_, rfl, _, _, rfl, h, rfl, _, _, rfl, _, _, rfl, _, _, rfl, rfl, ?_⟩
      rename_i x y z bx by' bz
      refine ⟨_, rfl, _, _, rfl, hx, bx, rfl, ?_⟩
      cases bx with
      | false => exact iteT q
      | true =>
        refine iteF ⟨_, rfl, _, _, rfl, hy, by', rfl, ?_⟩
        cases by' with
        | false => exact iteT q
        | true =>
          refine iteF ⟨_, rfl, _, _, rfl, hz, bz, rfl, ?_⟩
          cases bz with
          | false => exact iteT q
          | true => cases hb
    | deed hT =>
      rename_i a x y z
      refine ⟨_, rfl, ⟨_, _, _, _, true, rfl, .ty _, (ty_tup hT), kit_ty (by decide +kernel), ⟨true, rfl, iteF ⟨_, rfl, a, _, rfl, .inr hT, rfl, _, rfl, iteF ?_⟩⟩⟩⟩
      refine ⟨_, rfl, a, _, rfl, hT, rfl, _, _, rfl, _, _, rfl, _, _, rfl, rfl, ?_⟩
      refine ⟨_, rfl, _, _, rfl, .int x, true, rfl, iteF ⟨_, rfl, _, _, rfl, .int y, true, rfl, iteF ⟨_, rfl, _, _, rfl, .int z, true, rfl, iteF ?_⟩⟩⟩
      refine ⟨_, rfl, 0, x, rfl, rfl, _, rfl, ?_⟩
      have fin : ∀ b : Bool, b = deedB n (x, y, z) → Q (.bl b) H := fun b e => by rw [e]; exact q
      by_cases h1 : 0 ≤ x
      · rw [decide_eq_true h1]
        refine iteT ⟨_, rfl, x, y, rfl, rfl, _, rfl, ?_⟩
        by_cases h2 : x < y
        · rw [decide_eq_true h2]
          refine iteT ⟨_, rfl, y, n, rfl, rfl, _, rfl, ?_⟩
          by_cases h3 : y ≤ n
          · rw [decide_eq_true h3]
            refine iteT ⟨_, rfl, rfl, fin _ ?_⟩
            unfold deedB
            rw [decide_eq_true (show (0 : Int) ≤ (x, y, z).1 from h1), decide_eq_true (show (x, y, z).1 < (x, y, z).2.1 from h2), decide_eq_true (show (x, y, z).2.1 ≤ n from h3)]
            show (!decide (V.int z = V.int 0)) = decide (z ≠ 0)
            by_cases h4 : z = 0
            · subst h4; rfl
            · rw [decide_eq_false (fun e => h4 (V.int.inj e)), decide_eq_true h4]; rfl
          · rw [decide_eq_false h3]
            refine iteF (fin _ ?_)
            unfold deedB
            rw [decide_eq_false (show ¬ (x, y, z).2.1 ≤ n from h3)]
            simp
        · rw [decide_eq_false h2]
          refine iteF ⟨false, rfl, iteF (fin _ ?_)⟩
          unfold deedB
          rw [decide_eq_false (show ¬ (x, y, z).1 < (x, y, z).2.1 from h2)]
          simp
      · rw [decide_eq_false h1]
        refine iteF ⟨false, rfl, iteF (fin _ ?_)⟩
        unfold deedB
        rw [decide_eq_false (show ¬ (0 : Int) ≤ (x, y, z).1 from h1)]
        simp

end
end DR
namespace DR
open PySem PySem.Spec PyProof.Rows L2
theorem NotT.same {K : PySem.W.Frag} {H H' : Hp} {x : V} (h : NotT K H x) (s : Same H H') : NotT K H' x := by
  cases h with
  | int i => exact .int i
  | bl b => exact .bl b
  | non => exact .non
  | str z => exact .str z
  | lst h => exact .lst (s.seq h)
theorem DeedB.same {K : PySem.W.Frag} {H H' : Hp} {n : Int} {x : V} {b : Bool} (h : DeedB K H n x b) (s : Same H H') : DeedB K H' n x b := by
  cases h with
  | no h => exact .no (h.same s)
  | len h hl => exact .len (stup s h) hl
  | sort h hx hy hz hb => exact .sort (stup s h) (hx.same s) (hy.same s) (hz.same s) hb
  | deed h => exact .deed (stup s h)
/-- which of the things are deeds -/
def Looked (K : PySem.W.Frag) (H : Hp) (n : Int) (xs : List V) (bs : List Bool) : Prop := bs.length = xs.length ∧ ∀ (i : Nat) (x : V), xs[i]? = some x → ∃ b, bs[i]? = some b ∧ DeedB K H n x b
theorem Looked.same {K : PySem.W.Frag} {H H' : Hp} {n : Int} {xs : List V} {bs : List Bool} (h : Looked K H n xs bs) (s : Same H H') : Looked K H' n xs bs :=
  ⟨h.1, fun i x e => let ⟨b, h1, h2⟩ := h.2 i x e; ⟨b, h1, h2.same s⟩⟩
theorem looked_of {K : PySem.W.Frag} {H : Hp} {n : Int} {as : List Addr} {ds : List Deed} (h : DsAt H as ds) : Looked K H n (as.map V.ref) (ds.map (deedB n)) := by
  refine ⟨by rw [List.length_map, List.length_map, h.len], fun i x e => ?_⟩
  obtain ⟨a, ha, rfl⟩ := ref_at e
  obtain ⟨⟨x, y, z⟩, hd, hT⟩ := h.at_ i a ha
  exact ⟨deedB n (x, y, z), by rw [List.getElem?_map, hd]; rfl, .deed (.inl (.inl hT))⟩
theorem deedB_iff {n : Int} {d : Deed} : deedB n d = decide (DeedOk n d) := by
  unfold deedB
  rw [← Bool.decide_and, ← Bool.decide_and, ← Bool.decide_and]
  exact decide_eq_decide.mpr Iff.rfl
theorem deeds_all {n : Int} (ds : List Deed) : (ds.map (deedB n)).all _root_.id = decide (DeedsOk n ds) := by
  induction ds with
  | nil => exact (decide_eq_true (show DeedsOk n [] from fun d hd => nomatch hd)).symm
  | cons d r ih =>
    rw [List.map_cons, List.all_cons, ih, deedB_iff]
    show (decide (DeedOk n d) && decide (DeedsOk n r)) = _
    rw [← Bool.decide_and]
    exact decide_eq_decide.mpr ⟨fun h x hx => (List.mem_cons.mp hx).elim (fun e => by rw [e]; exact h.1) (h.2 x), fun h => ⟨h d List.mem_cons_self, fun x hx => h x (List.mem_cons_of_mem _ hx)⟩⟩
def spAre (T : List Addr) (K : PySem.W.Frag) : Sp := fun vs H Q _ => ∃ (n : Int) (p : Addr) (xs : List V) (bs : List Bool), vs = [.int n, .ref p] ∧ SqL K H p xs ∧ Tabs T H ∧ Looked K H n xs bs ∧ ∀ H', Same H H' → Q (.bl (bs.all _root_.id)) H'
section
variable {P : Program} {w : World} {K : PySem.W.Frag} {mg : Str → Option Value} {base : Heap} {T : List Addr} {c PA : Addr}
theorem scAre : FnScope ["dials", "things"] ["dials", "things"] (defScope sAre) := ⟨rfl, rfl, rfl, by decide +kernel, rfl, by decide +kernel, by decide +kernel⟩
theorem ok_are (D : DefT K mg "are_deeds" sAre ["dials", "things"] c) (TB : GxR.TabB base mg c PA) (hT : PA ∈ T) (B : Blt mg) (GD : Callee P w K mg base 2 "is_deed" ["dials", "thing"] (spDeedB K)) : Callee P w K mg base 4 "are_deeds" ["dials", "things"] (spAre T K) := by
  refine D.ok scAre (fun vs H Q E h => ?_) (fun f A outer s H vs Q E hr h => ?_)
  · obtain ⟨n, p, xs, bs, rfl, _⟩ := h
    rfl
  · obtain ⟨n, p, xs, bs, rfl, hS, ht, hL, q⟩ := h
    have nd2 : (["thing", "dials"] : List Str).Nodup := by decide +kernel
    refine ⟨_, pss_one (ps_ret (pe_allG (k := 2) (tn := 1) (js := [0]) (N := ["thing", "dials"]) (g := gName 0) hr (by rfl) B.all TB rfl (gsc_by (sc := defScope sAre) (XN := ["dials", "things"]) rfl rfl (by decide +kernel)) (pv 1)
      (fun _ _ _ _ _ _ _ _ => pg_name (i := 0) nd2 rfl (.inl rfl))
      (fun _ _ _ _ _ _ _ _ hr' => pe_c GD hr' (by rfl) (pa_cons (pv 1) (pa_cons (pv 0) pa_nil))))), ?_⟩
    refine ⟨_, rfl, p, xs, rfl, hS, ht PA hT, fun H2 s2 => ?_⟩
    refine ⟨fun ys σ' H' => (∃ v, σ' = [v, some (.int n)]) ∧ Same H H' ∧ (bs.take ys.length).all _root_.id = true, ⟨⟨none, rfl⟩, s2, rfl⟩, fun ys σ' H' h => h.2.1.seq hS, ?_, ?_⟩
    · rintro ys x σ' H' hx ⟨⟨v, rfl⟩, s', hb⟩
      obtain ⟨b, e, hB⟩ := (hL.same s').2 _ _ hx
      refine ⟨_, rfl, _, rfl, n, x, b, rfl, hB, b, rfl, ?_⟩
      cases b with
      | true =>
        rw [if_pos rfl]
        refine ⟨⟨_, rfl⟩, s', ?_⟩
        rw [List.length_append]
        show (bs.take (ys.length + 1)).all _root_.id = true
        rw [all_take e, hb]
        rfl
      | false =>
        rw [if_neg Bool.false_ne_true]
        have e2 : bs.all _root_.id = false := by
          rw [List.all_eq_false]
          exact ⟨false, List.mem_of_getElem? e, by simp⟩
        have := q H' s'
        rw [e2] at this
        exact this
    · rintro ys σ' H' hl ⟨⟨v, rfl⟩, s', hb⟩
      rw [List.take_of_length_le (by rw [hL.1]; omega)] at hb
      have := q H' s'
      rw [hb] at this
      exact this
end
end DR
namespace DR
open PySem PySem.Spec PyProof.Rows L2
def spDeeds (T : List Addr) (K : PySem.W.Frag) : Sp := fun vs H Q _ => ∃ (n : Int) (p : Addr) (as : List Addr) (ds : List Deed), vs = [.int n, .ref p] ∧ SqL K H p (as.map V.ref) ∧ DsAt H as ds ∧ DeedsOk n ds ∧ Tabs T H ∧ ∀ H', Same H H' → Q .non H'
def spTurned (T : List Addr) (K : PySem.W.Frag) : Sp := fun vs H Q _ => ∃ (m : Int) (a p : Addr) (ns : List Int) (as : List Addr) (ds : List Deed), vs = [.int m, .ref a, .ref p] ∧ SqL K H a (ns.map V.int) ∧ SqL K H p (as.map V.ref) ∧ DsAt H as ds ∧
  2 ≤ m ∧ RowOk m ns ∧ DeedsOk ns.length ds ∧ ns.length ≤ 1000 ∧ Tabs T H ∧ ∀ H' q, Same H H' → H q = none → H' q = some (.lst ((behind m ns ds).map V.int)) → Q (.ref q) H'
section
variable {P : Program} {w : World} {K : PySem.W.Frag} {mg : Str → Option Value} {base : Heap} {T : List Addr}
theorem scDeeds : FnScope ["dials", "deeds"] ["dials", "deeds"] (defScope sDeeds) := ⟨rfl, rfl, rfl, by decide +kernel, rfl, by decide +kernel, by decide +kernel⟩
theorem ok_deeds (D : Def K mg "check_deeds" sDeeds ["dials", "deeds"]) (B : Blt mg) (GA : Callee P w K mg base 4 "are_deeds" ["dials", "things"] (spAre T K)) : Callee P w K mg base 5 "check_deeds" ["dials", "deeds"] (spDeeds T K) := by
  refine D.ok scDeeds (fun vs H Q E h => ?_) (fun f cdv A outer s H vs Q E hr h => ?_)
  · obtain ⟨n, p, as, ds, rfl, _⟩ := h
    rfl
  · obtain ⟨n, p, as, ds, rfl, hS, hD, hok, hT, q⟩ := h
    refine ⟨_, pss_cons (ps_if (pt_not (pt_val (pe_callB call_isi (by rfl) B.isi boot_isinstance (pa_cons (pv 1) (pa_cons (pe_bltn (v := .ty "list") (by rfl) B.list PyProof.Rows.boot_list rfl) pa_nil))))) (pss_one ps_never) pss_nil)
      (pss_one (ps_if (pt_not (pt_val (pe_c GA hr (by rfl) (pa_cons (pv 0) (pa_cons (pv 1) pa_nil))))) (pss_one ps_never) pss_nil)), ?_⟩
    refine ⟨_, rfl, ⟨_, _, _, _, true, rfl, .ty _, (ty_lst hS), kit_ty (by decide +kernel), ⟨true, rfl, iteF ?_⟩⟩⟩
    refine ⟨_, rfl, _, rfl, n, p, _, _, rfl, hS, hT, looked_of hD, fun H' s' => ⟨_, rfl, ?_⟩⟩
    rw [deeds_all, decide_eq_true hok]
    exact iteF (q H' s')
theorem scTurned : FnScope ["size", "row", "deeds", "changes", "first", "end", "steps", "behind", "turn", "place", "figure"] ["size", "row", "deeds"] (defScope sTurned) := ⟨rfl, rfl, rfl, by decide +kernel, rfl, by decide +kernel, by decide +kernel⟩
theorem bump_V (c : List Int) (k : Nat) (s y : Int) (h : c[k]? = some y) : (c.map V.int).set k (.int (y + s)) = (bump c k s).map V.int := by
  unfold bump
  rw [List.map_set, List.getD_eq_getElem?_getD, h]; rfl
theorem bump_Vs (c : List Int) (k : Nat) (s y : Int) (h : c[k]? = some y) : (c.map V.int).set k (.int (y - s)) = (bump c k (-s)).map V.int := by
  rw [Int.sub_eq_add_neg]
  exact bump_V c k (-s) y h
theorem ok_turned (D : Def K mg "turned" sTurned ["size", "row", "deeds"]) (B : Blt mg) (GS : Callee P w K mg base 2 "check_size" ["size"] spSize) (GR : Callee P w K mg base 2 "check_row" ["size", "row"] (spRow K)) (GD : Callee P w K mg base 5 "check_deeds" ["dials", "deeds"] (spDeeds T K)) :
    Callee P w K mg base 6 "turned" ["size", "row", "deeds"] (spTurned T K) := by
  refine D.ok scTurned (fun vs H Q E h => ?_) (fun f cdv A outer s H vs Q E hr h => ?_)
  · obtain ⟨m, a, p, ns, as, ds, rfl, _⟩ := h
    rfl
  · obtain ⟨m, a, p, ns, as, ds, rfl, hS, hP, hD, hm, hR, hok, hl, hT, q⟩ := h
    have hr2 : Room 2 _ := hr.mono (by decide)
    refine ⟨_, pss_cons (ps_expr (pe_c GS hr2 (by rfl) (pa_cons (pv 0) pa_nil)))
      (pss_cons (ps_expr (pe_c GR hr2 (by rfl) (pa_cons (pv 0) (pa_cons (pv 1) pa_nil))))
      (pss_cons (ps_expr (pe_c GD hr (by rfl) (pa_cons (pe_callB call_len_seq (by rfl) B.len PySem.boot_len (pa_cons (pv 1) pa_nil)) (pa_cons (pv 2) pa_nil))))
      (pss_cons (ps_set (i := 3) scTurned.nd rfl (.inl rfl) (pe_op op_rep (pe_lst (pa_cons pe_int pa_nil)) (pe_op op_add (pe_callB call_len_seq (by rfl) B.len PySem.boot_len (pa_cons (pv 1) pa_nil)) pe_int)))
      (pss_cons (ps_for PassesOwn.never rfl (pi_list (pv 2)) (pg_tup (by rfl) (pgs_cons (pg_name (i := 4) scTurned.nd rfl (.inl rfl)) (pgs_cons (pg_name (i := 5) scTurned.nd rfl (.inl rfl)) (pgs_cons (pg_name (i := 6) scTurned.nd rfl (.inl rfl)) pgs_nil))))
        (pss_cons (ps_augS (pv 3) (pv 4) get_list (pv 6) ip_add set_list) (pss_one (ps_augS (pv 3) (pv 5) get_list (pv 6) ip_sub set_list))))
      (pss_cons (ps_set (i := 7) scTurned.nd rfl (.inl rfl) (pe_lst pa_nil))
      (pss_cons (ps_set (i := 8) scTurned.nd rfl (.inl rfl) pe_int)
      (pss_cons (ps_for PassesOwn.never rfl (pi_enum (by rfl) B.enumerate (pa_cons (pv 1) pa_nil)) (pg_tup (by rfl) (pgs_cons (pg_name (i := 9) scTurned.nd rfl (.inl rfl)) (pgs_cons (pg_name (i := 10) scTurned.nd rfl (.inl rfl)) pgs_nil)))
        (pss_cons (ps_aug (i := 8) scTurned.nd rfl (.inl rfl) (pe_ix ix_list (pv 3) (pv 9) (fun _ _ => rfl)) ip_add)
        (pss_one (ps_expr (pe_bm PySem.F.plainAttrs_list PySem.F.slot_list_append PySem.F.type_list_append mt_append (pv 7) (pa_cons (pe_op op_mod (pe_op op_add (pv 10) (pv 8)) (pv 0)) pa_nil))))))
      (pss_one (ps_ret (pv 7)))))))))), ?_⟩
    -- the checks
    refine ⟨_, rfl, m, rfl, hm, ?_⟩
    refine ⟨_, rfl, _, rfl, m, a, ns, rfl, hS, hR, ?_⟩
    refine ⟨_, rfl, a, _, rfl, .inl hS, _, rfl, _, p, as, ds, rfl, hP, hD, by rw [List.length_map]; exact hok, hT, fun H s0 => ?_⟩
    replace hS := s0.seq hS
    replace hP := s0.seq hP
    replace hD := hD.same s0
    replace q : ∀ H' q, Same H H' → H q = none → H' q = some (.lst ((behind m ns ds).map V.int)) → Q (.ref q) H' := fun H' z s n e => q H' z (s0.trans s) (s0.free n) e
    -- changes = [0] * (len(row) + 1)
    refine ⟨by show 1 ≤ sizeLine; decide, fun l hl1 => ?_⟩
    have s1 : Same H (upd H l (.lst [.int 0])) := same_new hl1
    refine ⟨_, rfl, a, _, rfl, .inl (s1.seq hS), _, _, rfl, rfl, l, _, _, rfl, rfl, upd_same, ?_, ?_, ?_, fun c hc => ?_⟩
    · rw [List.length_map]; omega
    · rw [List.length_map]; omega
    · rw [List.length_map]
      exact line_of (by show ([V.int 0] : List V).length * _ ≤ _; simp only [List.length_cons, List.length_nil]; omega)
    have s2 : Same H (upd (upd H l (.lst [.int 0])) c (.lst (List.replicate (((ns.map V.int).length : Int) + 1).toNat [V.int 0]).flatten)) := s1.trans (same_new hc)
    have ec : (List.replicate (((ns.map V.int).length : Int) + 1).toNat [V.int 0]).flatten = (marks ns.length []).map V.int := by
      rw [List.length_map, show ((ns.length : Int) + 1).toNat = ns.length + 1 by omega]
      unfold marks
      show _ = (List.replicate (ns.length + 1) (0 : Int)).map V.int
      rw [List.map_replicate, List.flatten_replicate_singleton]
    have hcH : H c = none := s1.free hc
    -- the stretches' ends
    refine ⟨_, rfl, p, rfl, ⟨_, s2.seq hP⟩, for_list (K := K) (a := p) (xs := as.map V.ref)
      (fun i σ H2 => (∃ x4 x5 x6, σ = [some (.int m), some (.ref a), some (.ref p), some (.ref c), x4, x5, x6, none, none, none, none]) ∧ Same H H2 ∧ H2 c = some (.lst ((marks ns.length (ds.take i)).map V.int)))
      ⟨⟨none, none, none, rfl⟩, s2, by rw [upd_same, ec]; rfl⟩ (fun i σ H2 _ h => h.2.1.seq hP) ?_ ?_⟩
    · rintro i y σ H2 hi ⟨⟨x4, x5, x6, rfl⟩, sm, hc2⟩
      obtain ⟨t, ht, rfl⟩ := ref_at hi
      obtain ⟨⟨x, y, z⟩, hd, hT⟩ := hD.at_ i t ht
      obtain ⟨g1, g2, g3, g4⟩ := hok (x, y, z) (List.mem_of_getElem? hd)
      have g1' : 0 ≤ x := g1
      have g2' : x < y := g2
      have g3' : y ≤ (ns.length : Int) := g3
      obtain ⟨xn, rfl⟩ : ∃ k : Nat, x = (k : Int) := ⟨x.toNat, by omega⟩
      obtain ⟨yn, rfl⟩ : ∃ k : Nat, y = (k : Int) := ⟨y.toNat, by omega⟩
      have hlen := marks_length ns.length (ds.take i)
      have hx : xn < (marks ns.length (ds.take i)).length := by omega
      have hy : yn < (bump (marks ns.length (ds.take i)) xn z).length := by rw [bump_length]; omega
      have vx := List.getElem?_eq_getElem hx
      have vy := List.getElem?_eq_getElem hy
      refine ⟨t, _, rfl, .inl (.inl (sm _ _ hT)), rfl, _, _, rfl, _, _, rfl, _, _, rfl, rfl, ?_⟩
      refine ⟨_, rfl, _, rfl, c, _, _, _, rfl, rfl, SqL.of hc2, g1, atI_nat (at_map vx), _, rfl, _, _, rfl, rfl, c, _, _, xn, rfl, rfl, hc2, ixN_nat (by rw [List.length_map]; exact hx), ?_⟩
      rw [bump_V _ _ _ _ vx]
      refine ⟨_, rfl, _, rfl, c, _, _, _, rfl, rfl, SqL.of upd_same, by omega, atI_nat (at_map vy), _, rfl, _, _, rfl, rfl, c, _, _, yn, rfl, rfl, upd_same, ixN_nat (by rw [List.length_map]; exact hy), ?_⟩
      refine ⟨⟨_, _, _, rfl⟩, smut (smut sm hcH) hcH, ?_⟩
      rw [upd_same, take_snoc hd, marks_snoc]
      exact congrArg (fun q => some (HO.lst q)) (bump_Vs _ _ _ _ vy)
    · rintro σ H2 ⟨⟨x4, x5, x6, rfl⟩, sm, hc2⟩
      have ed : ds.take (as.map V.ref).length = ds := List.take_of_length_le (by rw [List.length_map, hD.len]; exact Nat.le_refl _)
      rw [ed] at hc2
      -- behind = []; turn = 0
      refine ⟨Nat.zero_le _, fun b hb => ?_⟩
      have hbH : H b = none := sm.free hb
      have hbc : c ≠ b := ne_of_none hc2 hb
      refine ⟨_, rfl, a, _, rfl, (smut sm hbH).seq hS, for_it (walk_enum (K := K) (a := a) (xs := ns.map V.int))
        (fun i σ H3 => (∃ x4 x5 x6 x9 x10, σ = [some (.int m), some (.ref a), some (.ref p), some (.ref c), x4, x5, x6, some (.ref b), some (.int ((marks ns.length ds).take i).sum), x9, x10]) ∧ Same H H3 ∧
          H3 c = some (.lst ((marks ns.length ds).map V.int)) ∧ H3 b = some (.lst (((behind m ns ds).take i).map V.int)))
        ⟨⟨_, _, _, _, _, rfl⟩, smut sm hbH, by rw [upd_ne hbc]; exact hc2, upd_same⟩ (fun i σ H3 _ h => h.2.1.seq hS) ?_ ?_⟩
      · rintro i y σ H3 H4 hi ⟨⟨y4, y5, y6, y9, y10, rfl⟩, sm3, hc3, hb3⟩ ⟨t, u, v, rfl, nt, rfl, hu, hv⟩
        obtain ⟨z, hz, rfl⟩ := map_at hv
        cases hu
        have sm4 := sm3.trans (same_new (o := .tup [.int ((i : Nat) : Int), .int z]) nt)
        have hc4 : (upd H3 t (.tup [.int ((i : Nat) : Int), .int z])) c = some (.lst ((marks ns.length ds).map V.int)) := by rw [upd_ne (ne_of_none hc3 nt)]; exact hc3
        have hb4 : (upd H3 t (.tup [.int ((i : Nat) : Int), .int z])) b = some (.lst (((behind m ns ds).take i).map V.int)) := by rw [upd_ne (ne_of_none hb3 nt)]; exact hb3
        have hil := at_lt hz
        have hx : i < (marks ns.length ds).length := by rw [marks_length]; omega
        have vx := List.getElem?_eq_getElem hx
        have es : ((marks ns.length ds).take i).sum + (marks ns.length ds)[i] = cover ds i := by
          rw [← sum_take vx]
          exact marks_take hok i
        refine ⟨t, _, rfl, .inl (.inl upd_same), rfl, _, _, rfl, _, _, rfl, rfl, ?_⟩
        refine ⟨_, rfl, _, rfl, _, rfl, c, _, _, _, rfl, rfl, SqL.of hc4, atI_nat (at_map vx), _, _, rfl, rfl, ?_⟩
        refine ⟨_, rfl, .inl ⟨rfl, _, SqL.of hb4⟩, _, rfl, _, rfl, _, _, rfl, rfl, _, rfl, _, _, rfl, rfl, (show (0 : Int) < m by omega), b, _, _, rfl, rfl, hb4, ?_, ?_⟩
        · rw [List.length_map, List.length_take]
          exact line_lt (by omega)
        · refine ⟨⟨y4, y5, y6, some (.int ((i : Nat) : Int)), some (.int z), ?_⟩, smut sm4 hbH, ?_, ?_⟩
          · rw [sum_take vx]; rfl
          · rw [upd_ne hbc]; exact hc4
          · rw [upd_same]
            show some (HO.lst (((behind m ns ds).take i).map V.int ++ [V.int ((z + (((marks ns.length ds).take i).sum + (marks ns.length ds)[i])) % m)])) = _
            have eb : (behind m ns ds)[i]? = some ((z + cover ds i) % m) := by rw [behind_get, hz]; rfl
            rw [es, take_snoc eb, List.map_append]
            rfl
      · rintro σ H3 ⟨⟨y4, y5, y6, y9, y10, rfl⟩, sm3, hc3, hb3⟩
        have eb : (behind m ns ds).take (ns.map V.int).length = behind m ns ds := List.take_of_length_le (by rw [List.length_map, behind_length]; exact Nat.le_refl _)
        rw [eb] at hb3
        exact ⟨_, rfl, q H3 b sm3 hbH hb3⟩
end
end DR
namespace DR
open PySem PySem.Spec PyProof.Rows L2
def spLSize (K : PySem.W.Frag) : Sp := fun vs H Q _ => ∃ (a : Addr) (ns : List Int), vs = [.ref a] ∧ SqL K H a (ns.map V.int) ∧ ∀ (m : Int) H', 2 ≤ m → m < 1000000000000000000000 → Same H H' → Q (.int m) H'
section
variable {P : Program} {w : World} {K : PySem.W.Frag} {mg : Str → Option Value} {base : Heap}
theorem scLSize : FnScope ["_law_script", "_law_mixed"] ["_law_script"] (defScope lSize) := ⟨rfl, rfl, rfl, by decide +kernel, rfl, by decide +kernel, by decide +kernel⟩
theorem ok_lSize (D : Def K mg "_law_size" lSize ["_law_script"]) (B : Blt mg) : Callee P w K mg base 1 "_law_size" ["_law_script"] (spLSize K) := by
  refine D.ok scLSize (fun vs H Q E h => ?_) (fun f cdv A outer s H vs Q E hr h => ?_)
  · obtain ⟨a, ns, rfl, _⟩ := h
    rfl
  · obtain ⟨a, ns, rfl, hS, q⟩ := h
    refine ⟨_, pss_cons (ps_set (i := 1) scLSize.nd rfl (.inl rfl) (pe_callB (cr_sum rfl) (by rfl) B.sum PyProof.Rows.boot_sum (pa_cons (pv 0) pa_nil)))
      (pss_one (ps_ret (pe_ix ix_tup (pe_tup (pa_cons pe_int (pa_cons (pe_op op_add pe_int (pe_op op_mod (pe_op op_fdiv (pv 1) pe_int) pe_int)) (pa_cons pe_int (pa_cons (pe_op op_add (pe_op op_pow pe_int pe_int) (pe_op op_mod (pv 1) pe_int)) (pa_cons pe_int pa_nil))))))
        (pe_op op_mod (pe_op op_fdiv (pv 1) pe_int) pe_int) (fun _ _ => rfl)))), ?_⟩
    refine ⟨_, rfl, a, ns, rfl, hS, ?_⟩
    generalize ns.sum = S
    refine ⟨_, rfl, S, 5, rfl, rfl, ⟨by decide, by decide⟩, _, 5, rfl, rfl, (by show (0 : Int) < 5; decide), _, _, rfl, rfl, 10, 20, rfl, rfl, ⟨by decide, by decide, by decide⟩, _, rfl, S, 1000, rfl, rfl, (by show (0 : Int) < 1000; decide), _, _, rfl, rfl, (by show 5 ≤ sizeLine; decide), fun t ht => ?_⟩
    refine ⟨_, rfl, S, 11, rfl, rfl, ⟨by decide, by decide⟩, _, 5, rfl, rfl, (by show (0 : Int) < 5; decide), ?_⟩
    obtain ⟨k, hk, hk5⟩ : ∃ k : Nat, S / 11 % 5 = (k : Int) ∧ k < 5 := ⟨(S / 11 % 5).toNat, by omega, by omega⟩
    have hL : ∀ x ∈ ([2, 3 + S / 5 % 5, 10, 10 ^ (20 : Int).toNat + S % 1000, 60] : List Int), 2 ≤ x ∧ x < 1000000000000000000000 := by
      intro x hx
      have e : (10 : Int) ^ (20 : Int).toNat = 100000000000000000000 := by decide
      rw [e] at hx
      simp only [List.mem_cons, List.not_mem_nil, or_false] at hx
      omega
    have hlen : k < ([2, 3 + S / 5 % 5, 10, 10 ^ (20 : Int).toNat + S % 1000, 60] : List Int).length := hk5
    obtain ⟨b1, b2⟩ := hL _ (List.getElem_mem hlen)
    refine ⟨t, _, _, .int _, rfl, rfl, SqT.of upd_same, at_of hk (at_map (f := V.int) (List.getElem?_eq_getElem hlen)), ?_⟩
    exact q _ _ b1 b2 (same_new ht)
end
end DR
namespace DR
open PySem PySem.Spec PyProof.Rows L2
/-- how many dials the law's rows have -/
def rowLen (ns : List Int) : Nat := if ns.sum / 21 % 9 = 4 ∧ ns ≠ [] then 70 + (ns.sum % 30).toNat else ns.length
theorem rowLen_le {ns : List Int} (h : ns.length ≤ 63) : rowLen ns ≤ 99 := by
  unfold rowLen
  split <;> omega
theorem rowLen_nil {ns : List Int} : rowLen ns = 0 ↔ ns = [] := by
  unfold rowLen
  by_cases h : ns.sum / 21 % 9 = 4 ∧ ns ≠ []
  · rw [if_pos h]
    exact ⟨fun e => by omega, fun e => absurd e h.2⟩
  · rw [if_neg h]
    exact List.length_eq_zero_iff
def spLRow (K : PySem.W.Frag) : Sp := fun vs H Q _ => ∃ (a : Addr) (ns : List Int) (m by' : Int), vs = [.ref a, .int m, .int by'] ∧ SqL K H a (ns.map V.int) ∧ 2 ≤ m ∧ m < 1000000000000000000000 ∧ 0 ≤ by' ∧ by' ≤ 3 ∧ ns.length ≤ 63 ∧
  ∀ (rs : List Int) H' p, Same H H' → H p = none → H' p = some (.lst (rs.map V.int)) → RowOk m rs → rs.length = rowLen ns → Q (.ref p) H'
theorem log_of {j : Int} (h : 0 < j) (h2 : j < 10000000000000000000000) : CDivW 0 j := wide_div (b := 80) h (by omega) (by decide) (by decide)
theorem rowOk_nil {m : Int} : RowOk m [] := fun x hx => nomatch hx
section
variable {P : Program} {w : World} {K : PySem.W.Frag} {mg : Str → Option Value} {base : Heap}
theorem scLRow : FnScope ["_law_script", "_law_size_here", "_law_by", "_law_mixed", "_law_found", "_law_last", "_law_cell", "_law_figure", "_law_some", "_law_at"] ["_law_script", "_law_size_here", "_law_by"] (defScope lRow) := ⟨rfl, rfl, rfl, by decide +kernel, rfl, by decide +kernel, by decide +kernel⟩
theorem ok_lRow (D : Def K mg "_law_row" lRow ["_law_script", "_law_size_here", "_law_by"]) (B : Blt mg) : Callee P w K mg base 1 "_law_row" ["_law_script", "_law_size_here", "_law_by"] (spLRow K) := by
  refine D.ok scLRow (fun vs H Q E h => ?_) (fun f cdv A outer s H vs Q E hr h => ?_)
  · obtain ⟨a, ns, m, b, rfl, _⟩ := h
    rfl
  · obtain ⟨a, ns, m, b, rfl, hS, hm, hm2, hb0, hb3, hlen, q⟩ := h
    refine ⟨_, pss_cons (ps_set (i := 3) scLRow.nd rfl (.inl rfl) (pe_callB (cr_sum rfl) (by rfl) B.sum PyProof.Rows.boot_sum (pa_cons (pv 0) pa_nil)))
      (pss_cons (ps_set (i := 4) scLRow.nd rfl (.inl rfl) (pe_lst pa_nil))
      (pss_cons (ps_set (i := 5) scLRow.nd rfl (.inl rfl) pe_int)
      (pss_cons (ps_for PassesOwn.never rfl (pi_list (pv 0)) (pg_name (i := 6) scLRow.nd rfl (.inl rfl))
        (pss_cons (ps_set (i := 7) scLRow.nd rfl (.inl rfl) (pe_op op_mod (pe_op op_fdivW (pv 6) (pe_ix ix_tup (pe_tup (pa_cons pe_int (pa_cons (pv 1) (pa_cons pe_int (pa_cons (pe_op op_mul (pv 1) pe_int) pa_nil))))) (pe_op op_mod (pv 2) pe_int) (fun _ _ => rfl))) (pv 1)))
        (Evl.pss_cut (ps_if (pt_cmpR op_eq (pe_op op_mod (pe_op op_fdiv (pv 3) pe_int) pe_int) pe_int (nomark _))
          (pss_one (ps_set (i := 7) scLRow.nd rfl (.inl rfl) (pe_op op_mod (pe_op op_sub (pe_op op_add (pv 5) (pe_op op_mod (pv 7) pe_int)) pe_int) (pv 1)))) pss_nil)
        (pss_cons (ps_set (i := 5) scLRow.nd rfl (.inl rfl) (pv 7))
        (pss_one (ps_expr (pe_bm PySem.F.plainAttrs_list PySem.F.slot_list_append PySem.F.type_list_append mt_append (pv 4) (pa_cons (pv 7) pa_nil))))))))
      (pss_cons (ps_if (PW.pt (pw_and (pt_cmpR op_eq (pe_op op_mod (pe_op op_fdiv (pv 3) pe_int) pe_int) pe_int (nomark _)) (pw_and1 (pt_cmpR (op_neD hr.units) (pv 4) (pe_lst pa_nil) (nomark _)))))
        (pss_cons (ps_set (i := 8) scLRow.nd rfl (.inl rfl) (pv 4))
        (pss_cons (ps_set (i := 4) scLRow.nd rfl (.inl rfl) (pe_lst pa_nil))
        (pss_one (ps_for PassesOwn.never rfl (pi_range1 rfl B.range (pa_cons (pe_op op_add pe_int (pe_op op_mod (pv 3) pe_int)) pa_nil)) (pg_name (i := 9) scLRow.nd rfl (.inl rfl))
          (pss_cons (ps_set (i := 7) scLRow.nd rfl (.inl rfl) (pe_ix ix_list (pv 8) (pe_op op_mod (pe_op op_mul (pv 9) (pe_op op_add (pv 2) pe_int)) (pe_callB call_len_seq (by rfl) B.len PySem.boot_len (pa_cons (pv 8) pa_nil))) (fun _ _ => rfl)))
          (pss_one (ps_expr (pe_bm PySem.F.plainAttrs_list PySem.F.slot_list_append PySem.F.type_list_append mt_append (pv 4) (pa_cons (pe_op op_mod (pe_op op_add (pv 7) (pe_op op_mul (pe_op op_fdiv (pv 9) (pe_callB call_len_seq (by rfl) B.len PySem.boot_len (pa_cons (pv 8) pa_nil))) (pv 2))) (pv 1)) pa_nil))))))))) pss_nil)
      (pss_one (ps_ret (pv 4))))))), ?_⟩
    refine ⟨_, rfl, a, ns, rfl, hS, ?_⟩
    have hrl : rowLen ns = if ns.sum / 21 % 9 = 4 ∧ ns ≠ [] then 70 + (ns.sum % 30).toNat else ns.length := rfl
    generalize ns.sum = S at hrl
    refine ⟨Nat.zero_le _, fun p hp => ?_⟩
    have hmp : 0 < m := by omega
    refine ⟨_, rfl, a, rfl, ⟨_, (same_new hp).seq hS⟩, for_list (K := K) (a := a) (xs := ns.map V.int)
      (fun i σ H2 => ∃ (rs : List Int) (last : Int) (x6 x7 : Option V), σ = [some (.ref a), some (.int m), some (.int b), some (.int S), some (.ref p), some (.int last), x6, x7, none, none] ∧ Same H H2 ∧ H2 p = some (.lst (rs.map V.int)) ∧ RowOk m rs ∧ rs.length = i)
      ⟨[], 0, none, none, rfl, same_new hp, upd_same, rowOk_nil, rfl⟩ (fun i σ H2 _ h => by obtain ⟨_, _, _, _, _, sm, _⟩ := h; exact sm.seq hS) ?_ ?_⟩
    · rintro i y σ H2 hi ⟨rs, last, x6, x7, rfl, sm, hp2, hR, hl⟩
      obtain ⟨z, hz, rfl⟩ := map_at hi
      have hi63 := at_lt hz
      refine ⟨_, rfl, _, rfl, _, rfl, m, 5, rfl, rfl, .inr ⟨by decide, by decide⟩, (by show 4 ≤ sizeLine; decide), fun t ht => ?_⟩
      have sm3 : Same H2 (upd H2 t (.tup [.int 1, .int m, .int 7, .int (m * 5)])) := same_new ht
      obtain ⟨k, hk, hk4⟩ : ∃ k : Nat, b % 4 = (k : Int) ∧ k < 4 := ⟨(b % 4).toNat, by omega, by omega⟩
      have hL : ∀ x ∈ ([1, m, 7, m * 5] : List Int), 0 < x ∧ x < 10000000000000000000000 := by
        intro x hx
        simp only [List.mem_cons, List.not_mem_nil, or_false] at hx
        omega
      have hlk : k < ([1, m, 7, m * 5] : List Int).length := hk4
      obtain ⟨b1, b2⟩ := hL _ (List.getElem_mem hlk)
      refine ⟨_, rfl, b, 4, rfl, rfl, (by show (0 : Int) < 4; decide), t, _, _, .int _, rfl, rfl, SqT.of upd_same, at_of hk (at_map (f := V.int) (List.getElem?_eq_getElem hlk)), z, _, rfl, rfl, ⟨b1, (log_of b1 b2).2⟩, ?_⟩
      refine ⟨_, rfl, _, m, rfl, rfl, hmp, ?_⟩
      have g1 := Int.emod_nonneg (z / ([1, m, 7, m * 5] : List Int)[k]) (show m ≠ 0 by omega)
      have g2 := Int.emod_lt_of_pos (z / ([1, m, 7, m * 5] : List Int)[k]) hmp
      -- near one another
      refine ⟨fun σ H3 => ∃ fg : Int, 0 ≤ fg ∧ fg < m ∧ σ = [some (.ref a), some (.int m), some (.int b), some (.int S), some (.ref p), some (.int last), some (.int z), some (.int fg), none, none] ∧ Same H H3 ∧ H3 p = some (.lst (rs.map V.int)), ?_, ?_⟩
      · have hp3 : (upd H2 t (.tup [.int 1, .int m, .int 7, .int (m * 5)])) p = some (.lst (rs.map V.int)) := by rw [upd_ne (ne_of_none hp2 ht)]; exact hp2
        refine ⟨_, rfl, S, 7, rfl, rfl, ⟨by decide, by decide⟩, _, 3, rfl, rfl, (by show (0 : Int) < 3; decide), rfl, _, rfl, ite2 (fun e => ?_) (fun e => ?_)⟩
        · refine ⟨_, rfl, _, rfl, _, 3, rfl, rfl, (by show (0 : Int) < 3; decide), _, _, rfl, rfl, _, _, rfl, rfl, _, rfl, _, m, rfl, rfl, hmp, ?_⟩
          exact ⟨_, Int.emod_nonneg _ (by omega), Int.emod_lt_of_pos _ hmp, rfl, sm.trans sm3, hp3⟩
        · exact ⟨_, g1, g2, rfl, sm.trans sm3, hp3⟩
      · rintro σ H3 ⟨fg, h1, h2, rfl, sm4, hp4⟩
        refine ⟨_, rfl, _, rfl, .inl ⟨rfl, _, SqL.of hp4⟩, _, rfl, p, _, _, rfl, rfl, hp4, ?_, ?_⟩
        · rw [List.length_map]
          exact line_lt (by omega)
        · refine ⟨rs ++ [fg], fg, some (.int z), some (.int fg), rfl, smut sm4 hp, ?_, ?_, ?_⟩
          · rw [upd_same, List.map_append]; rfl
          · intro x hx
            rcases List.mem_append.mp hx with h | h
            · exact hR x h
            · have : x = fg := by simpa using h
              subst this
              exact ⟨h1, h2⟩
          · rw [List.length_append, hl]; rfl
    · rintro σ H2 ⟨rs, last, x6, x7, rfl, sm, hp2, hR, hl⟩
      rw [List.length_map] at hl
      refine ⟨_, rfl, S, 21, rfl, rfl, ⟨by decide, by decide⟩, _, 9, rfl, rfl, (by show (0 : Int) < 9; decide), rfl, _, rfl, ite2 (fun e => ?_) (fun e => ?_)⟩
      · have e1 : S / 21 % 9 = 4 := V.int.inj (of_decide_eq_true e)
        refine ⟨_, rfl, Nat.zero_le _, fun c hc => ?_⟩
        have hp3 : (upd H2 c (.lst [])) p = some (.lst (rs.map V.int)) := by rw [upd_ne (ne_of_none hp2 hc)]; exact hp2
        refine ⟨dI rs, dI [], dp_lst (SqL.of hp3), dp_lst (ns := []) (SqL.of upd_same), sh_dI _, sh_dI _, _, rfl, ?_⟩
        rw [eqv_dI]
        by_cases hrs : rs = []
        · rw [decide_eq_true hrs]
          refine iteF ⟨_, rfl, q rs _ p (smut sm (sm.free hc)) hp hp3 hR ?_⟩
          have hn : ns = [] := by
            rw [← List.length_eq_zero_iff, ← hl, hrs]
            rfl
          rw [hrl, if_neg (fun z => z.2 hn), hl]
        · rw [decide_eq_false hrs]
          have hn0 : 0 < rs.length := List.length_pos_iff.mpr hrs
          refine iteT ⟨_, rfl, Nat.zero_le _, fun d hd => ?_⟩
          have hcH : H c = none := sm.free hc
          have sm4 : Same H (upd (upd H2 c (.lst [])) d (.lst [])) := (smut sm hcH).trans (same_new hd)
          have hdH : H d = none := (smut (o := .lst []) sm hcH).free hd
          have hpd : p ≠ d := ne_of_none hp3 hd
          have c0 := Int.emod_nonneg S (show (30 : Int) ≠ 0 by decide)
          have c1 := Int.emod_lt_of_pos S (show (0 : Int) < 30 by decide)
          have hrl2 : rowLen ns = 70 + (S % 30).toNat := by
            rw [hrl, if_pos ⟨e1, fun z => hrs (by rw [← List.length_eq_zero_iff, hl, z]; rfl)⟩]
          refine ⟨_, rfl, S, 30, rfl, rfl, (by show (0 : Int) < 30; decide), 70, _, rfl, rfl, _, rfl, by omega, by omega, for_range (lo := 0) (n := (70 + S % 30).toNat)
            (fun i σ H4 => ∃ (ts : List Int) (x7 x9 : Option V), σ = [some (.ref a), some (.int m), some (.int b), some (.int S), some (.ref d), some (.int last), x6, x7, some (.ref p), x9] ∧ Same H H4 ∧ H4 p = some (.lst (rs.map V.int)) ∧ H4 d = some (.lst (ts.map V.int)) ∧ RowOk m ts ∧ ts.length = i)
            ⟨[], x7, none, rfl, sm4, by rw [upd_ne hpd]; exact hp3, upd_same, rowOk_nil, rfl⟩ ?_ ?_⟩
          · rintro i σ H4 hi ⟨ts, x7, x9, rfl, sm5, hp5, hd5, hT, hl5⟩
            have hlr : rs.length ≤ 63 := by omega
            have hlp : (0 : Int) < ((rs.map V.int).length : Int) := by rw [List.length_map]; omega
            have j0 := Int.emod_nonneg ((0 + (i : Int)) * (b + 1)) (show ((rs.map V.int).length : Int) ≠ 0 by omega)
            have j1 := Int.emod_lt_of_pos ((0 + (i : Int)) * (b + 1)) hlp
            obtain ⟨k, hk⟩ : ∃ k : Nat, (0 + (i : Int)) * (b + 1) % ((rs.map V.int).length : Int) = (k : Int) := ⟨((0 + (i : Int)) * (b + 1) % ((rs.map V.int).length : Int)).toNat, by omega⟩
            have hk2 : k < rs.length := by rw [hk, List.length_map] at j1; omega
            refine ⟨_, rfl, _, rfl, _, rfl, b, 1, rfl, rfl, _, _, rfl, rfl, .inr ⟨by omega, by omega⟩, _, rfl, p, _, rfl, .inl (SqL.of hp5), _, _, rfl, rfl, hlp, p, _, _, .int _, rfl, rfl, SqL.of hp5, at_of hk (at_map (List.getElem?_eq_getElem hk2)), ?_⟩
            refine ⟨_, rfl, .inl ⟨rfl, _, SqL.of hd5⟩, _, rfl, _, rfl, _, rfl, p, _, rfl, .inl (SqL.of hp5), _, _, rfl, rfl, ⟨hlp, by rw [List.length_map]; omega⟩, _, rfl, _, b, rfl, rfl, .inr ⟨by omega, by omega⟩, _, _, rfl, rfl, _, rfl, _, m, rfl, rfl, hmp, d, _, _, rfl, rfl, hd5, ?_, ?_⟩
            · rw [List.length_map]
              exact line_lt (by omega)
            · refine ⟨ts ++ [(rs[k] + (0 + (i : Int)) / ((rs.map V.int).length : Int) * b) % m], some (.int rs[k]), some (.int (0 + (i : Int))), rfl, smut sm5 hdH, by rw [upd_ne hpd]; exact hp5, ?_, ?_, ?_⟩
              · rw [upd_same, List.map_append]; rfl
              · intro x hx
                rcases List.mem_append.mp hx with h | h
                · exact hT x h
                · have : x = _ := List.mem_singleton.mp h
                  subst this
                  exact ⟨Int.emod_nonneg _ (by omega), Int.emod_lt_of_pos _ hmp⟩
              · rw [List.length_append, hl5]; rfl
          · rintro σ H4 ⟨ts, x7, x9, rfl, sm5, hp5, hd5, hT, hl5⟩
            exact ⟨_, rfl, q ts H4 d sm5 hdH hd5 hT (by rw [hl5, hrl2]; omega)⟩
      · have e1 : ¬ S / 21 % 9 = 4 := fun z => e (decide_eq_true (congrArg V.int z))
        refine iteF ⟨_, rfl, q rs _ p sm hp hp2 hR ?_⟩
        rw [hrl, if_neg (fun z => e1 z.1), hl]
end
end DR
namespace DR
open PySem PySem.Spec PyProof.Rows L2
def spLNumbers (K : PySem.W.Frag) : Sp := fun vs H Q _ => ∃ (a : Addr) (ns : List Int), vs = [.ref a] ∧ SqL K H a (ns.map V.int) ∧ ns.length ≤ 1000 ∧ ∀ H', Same H H' → Q (.bl true) H'
section
variable {P : Program} {w : World} {K : PySem.W.Frag} {mg : Str → Option Value} {base : Heap}
theorem scLNumbers : FnScope ["_law_found", "_law_one"] ["_law_found"] (defScope lNumbers) := ⟨rfl, rfl, rfl, by decide +kernel, rfl, by decide +kernel, by decide +kernel⟩
theorem ok_lNumbers (D : Def K mg "_law_numbers" lNumbers ["_law_found"]) (B : Blt mg) : Callee P w K mg base 1 "_law_numbers" ["_law_found"] (spLNumbers K) := by
  refine D.ok scLNumbers (fun vs H Q E h => ?_) (fun f cdv A outer s H vs Q E hr h => ?_)
  · obtain ⟨a, ns, rfl, _⟩ := h
    rfl
  · obtain ⟨a, ns, rfl, hS, hl, q⟩ := h
    refine ⟨_, pss_cons (ps_if (pt_not (pt_val (pe_callB call_isi (by rfl) B.isi boot_isinstance (pa_cons (pv 0) (pa_cons (pe_bltn (v := .ty "list") (by rfl) B.list PyProof.Rows.boot_list rfl) pa_nil))))) (pss_one (ps_ret pe_bl)) pss_nil)
      (pss_one (ps_ret (pe_callB (cr_all rfl) (by rfl) B.all PyProof.Rows.boot_all (pa_cons (pe_lc (own := [("_law_one", 1)]) (g := gName 1) (tt := tYes) rfl scLNumbers.nd (pi_list (pv 0)) (blkOk_by (N := ["_law_found", "_law_one"]) (sc := defScope lNumbers) (by decide +kernel))
        (fun _ _ _ _ _ => pg_name (i := 1) scLNumbers.nd rfl (Or.inl rfl)) (fun _ _ _ _ _ => pts_nil)
        (fun _ _ _ _ _ => pe_and (pe_callB (r := rIsi K) call_isi (by rfl) B.isi boot_isinstance (pa_cons (pv 1) (pa_cons (pe_bltn (v := .ty "int") (by rfl) B.int PyProof.Rows.boot_int rfl) pa_nil)))
          (pe_one (pe_not (pe_callB (r := rIsi K) call_isi (by rfl) B.isi boot_isinstance (pa_cons (pv 1) (pa_cons (pe_bltn (v := .ty "bool") (by rfl) B.bool PyProof.Rows.boot_bool rfl) pa_nil))))))) pa_nil)))), ?_⟩
    refine ⟨_, rfl, _, _, _, _, true, rfl, .ty _, ty_lst hS, kit_ty (by decide +kernel), true, rfl, iteF ?_⟩
    refine ⟨_, rfl, a, rfl, ⟨_, hS⟩, fun L hL => lc_list (K := K) (a := a) (xs := ns.map V.int) (fun i H2 => Same H H2 ∧ H2 L = some (.lst ((List.replicate i true).map V.bl))) ⟨same_new hL, upd_same⟩ (fun i H2 _ h => h.1.seq hS) ?_ ?_⟩
    · rintro i x H2 hi ⟨sm, hL2⟩
      obtain ⟨z, hz, rfl⟩ := map_at hi
      have hlt := at_lt hz
      refine ⟨rfl, _, rfl, _, _, _, _, true, rfl, .ty _, .base (.int z), kit_ty (by decide +kernel), true, rfl, iteT ⟨_, rfl, _, _, _, _, false, rfl, .ty _, .base (.int z), kit_ty (by decide +kernel), false, rfl, _, hL2, ?_, smut sm hL, ?_⟩⟩
      · rw [List.length_map, List.length_replicate]
        exact line_lt (by omega)
      · rw [upd_same, List.replicate_succ', List.map_append]
        rfl
    · rintro H2 ⟨sm, hL2⟩
      refine ⟨L, _, rfl, SqL.of hL2, ?_⟩
      rw [show (List.replicate (ns.map V.int).length true).all id = true by simp]
      exact q _ sm
end
end DR
namespace DR
open PySem PySem.Spec PyProof.Rows L2
theorem deedsOk_nil {n : Int} : DeedsOk n [] := fun d hd => nomatch hd
def spLTurned (K : PySem.W.Frag) : Sp := fun vs H Q _ => ∃ (m : Int) (a p : Addr) (ns : List Int) (as : List Addr) (ds : List Deed), vs = [.int m, .ref a, .ref p] ∧ SqL K H a (ns.map V.int) ∧ SqL K H p (as.map V.ref) ∧ DsAt H as ds ∧
  2 ≤ m ∧ RowOk m ns ∧ ns.length ≤ 1000 ∧ (DeedsOk ns.length ds → ∀ H' q, Same H H' → H q = none → H' q = some (.lst ((behind m ns ds).map V.int)) → Q (.ref q) H') ∧ (¬ DeedsOk ns.length ds → ∀ H', Same H H' → Q .non H')
section
variable {P : Program} {w : World} {K : PySem.W.Frag} {mg : Str → Option Value} {base : Heap}
theorem scLTurned : FnScope ["_law_size_here", "_law_row_here", "_law_deeds_here", "_law_found", "_law_first", "_law_end", "_law_steps", "_law_place"] ["_law_size_here", "_law_row_here", "_law_deeds_here"] (defScope lTurned) := ⟨rfl, rfl, rfl, by decide +kernel, rfl, by decide +kernel, by decide +kernel⟩
theorem ok_lTurned (D : Def K mg "_law_turned" lTurned ["_law_size_here", "_law_row_here", "_law_deeds_here"]) (B : Blt mg) : Callee P w K mg base 1 "_law_turned" ["_law_size_here", "_law_row_here", "_law_deeds_here"] (spLTurned K) := by
  refine D.ok scLTurned (fun vs H Q E h => ?_) (fun f cdv A outer s H vs Q E hr h => ?_)
  · obtain ⟨m, a, p, ns, as, ds, rfl, _⟩ := h
    rfl
  · obtain ⟨m, a, p, ns, as, ds, rfl, hS, hP, hD, hm, hR, hl, q, qn⟩ := h
    refine ⟨_, pss_cons (ps_set (i := 3) scLTurned.nd rfl (.inl rfl) (pe_callTy call_list_of (by rfl) B.list PyProof.Rows.boot_list (pa_cons (pv 1) pa_nil)))
      (pss_cons (ps_for PassesOwn.never rfl (pi_list (pv 2)) (pg_tup (by rfl) (pgs_cons (pg_name (i := 4) scLTurned.nd rfl (.inl rfl)) (pgs_cons (pg_name (i := 5) scLTurned.nd rfl (.inl rfl)) (pgs_cons (pg_name (i := 6) scLTurned.nd rfl (.inl rfl)) pgs_nil))))
        (pss_cons (ps_if (PW.pt (pw_or (pt_not (pt_chain3 op_le op_lt op_le pe_int (pv 4) (pv 5) (pe_callB call_len_seq (by rfl) B.len PySem.boot_len (pa_cons (pv 1) pa_nil)))) (pw_or1 (pt_cmpR op_eq (pv 6) pe_int (nomark _))))) (pss_one (ps_ret pe_non)) pss_nil)
        (pss_one (ps_for PassesOwn.never rfl (pi_range2 (by rfl) B.range (pa_cons (pv 4) (pa_cons (pv 5) pa_nil))) (pg_name (i := 7) scLTurned.nd rfl (.inl rfl))
          (pss_one (ps_asg (pe_op op_mod (pe_op op_add (pe_ix ix_list (pv 3) (pv 7) (fun _ _ => rfl)) (pv 6)) (pv 0)) (pg_sub (pv 3) (pv 7) set_list)))))))
      (pss_one (ps_ret (pv 3)))), ?_⟩
    have hmp : 0 < m := by omega
    refine ⟨_, rfl, a, _, rfl, .inl hS, fun c hc => ?_⟩
    refine ⟨_, rfl, p, rfl, ⟨_, (same_new hc).seq hP⟩, for_list (K := K) (a := p) (xs := as.map V.ref)
      (fun i σ H2 => (∃ x4 x5 x6 x7, σ = [some (.int m), some (.ref a), some (.ref p), some (.ref c), x4, x5, x6, x7]) ∧ Same H H2 ∧ H2 c = some (.lst ((behind m ns (ds.take i)).map V.int)) ∧ DeedsOk ns.length (ds.take i))
      ⟨⟨none, none, none, none, rfl⟩, same_new hc, by rw [upd_same, List.take_zero, behind_nil hR], fun d hd => nomatch hd⟩ (fun i σ H2 _ h => h.2.1.seq hP) ?_ ?_⟩
    · rintro i y σ H2 hi ⟨⟨x4, x5, x6, x7, rfl⟩, sm, hc2, hok⟩
      obtain ⟨t, ht, rfl⟩ := ref_at hi
      obtain ⟨⟨x, y, z⟩, hd, hT⟩ := hD.at_ i t ht
      refine ⟨t, _, rfl, .inl (.inl (sm _ _ hT)), rfl, _, _, rfl, _, _, rfl, _, _, rfl, rfl, ?_⟩
      have bad : ¬ DeedOk ns.length (x, y, z) → Q .non H2 := fun hb => qn (fun h => hb (h _ (List.mem_of_getElem? hd))) H2 sm
      refine ⟨_, rfl, 0, x, rfl, rfl, _, rfl, ?_⟩
      by_cases h1 : 0 ≤ x
      · rw [decide_eq_true h1]
        refine iteT ⟨_, rfl, x, y, rfl, rfl, _, rfl, ?_⟩
        by_cases h2 : x < y
        · rw [decide_eq_true h2]
          refine iteT ⟨_, rfl, a, _, rfl, .inl (sm.seq hS), y, _, rfl, rfl, _, rfl, ?_⟩
          by_cases h3 : y ≤ (ns.length : Int)
          · rw [decide_eq_true (show y ≤ ((ns.map V.int).length : Int) by rw [List.length_map]; exact h3)]
            refine iteF ⟨_, rfl, rfl, _, rfl, ?_⟩
            by_cases h4 : z = 0
            · rw [decide_eq_true (congrArg V.int h4)]
              exact iteT (bad fun g => g.2.2.2 h4)
            · rw [decide_eq_false (fun e => h4 (V.int.inj e))]
              have g : DeedOk ns.length (x, y, z) := ⟨h1, h2, h3, h4⟩
              refine iteF ⟨_, rfl, _, rfl, x, y, rfl, ⟨by omega, by omega, by omega, by omega⟩, for_range (lo := x) (n := (y - x).toNat)
                (fun k σ H3 => (∃ x7, σ = [some (.int m), some (.ref a), some (.ref p), some (.ref c), some (.int x), some (.int y), some (.int z), x7]) ∧ Same H H3 ∧ H3 c = some (.lst ((behind m ns (ds.take i ++ [(x, x + (k : Int), z)])).map V.int)))
                ⟨⟨_, rfl⟩, sm, by rw [show x + ((0 : Nat) : Int) = x by omega, behind_empty]; exact hc2⟩ ?_ ?_⟩
              · rintro k σ H3 hk ⟨⟨y7, rfl⟩, sm3, hc3⟩
                have hlt : (x + (k : Int)).toNat < (behind m ns (ds.take i ++ [(x, x + (k : Int), z)])).length := by rw [behind_length]; omega
                have hv := List.getElem?_eq_getElem hlt
                have hn : x + (k : Int) = ((x + (k : Int)).toNat : Int) := by omega
                refine ⟨_, rfl, _, rfl, c, _, _, .int _, rfl, rfl, SqL.of hc3, at_of hn (at_map hv), _, rfl, _, _, rfl, rfl, _, rfl, _, m, rfl, rfl, hmp, _, rfl, _, rfl, c, _, _, (x + (k : Int)).toNat, rfl, rfl, hc3, ?_, ⟨_, rfl⟩, smut sm3 hc, ?_⟩
                · have e := ixN_nat (n := ((behind m ns (ds.take i ++ [(x, x + (k : Int), z)])).map V.int).length) (k := (x + (k : Int)).toNat) (by rw [List.length_map]; exact hlt)
                  rw [← hn] at e
                  exact e
                · rw [upd_same]
                  have e := behind_step (m := m) h1 hv
                  rw [← e, List.map_set]
              · rintro σ H3 ⟨⟨y7, rfl⟩, sm3, hc3⟩
                refine ⟨⟨_, _, _, _, rfl⟩, sm3, ?_, ?_⟩
                · rw [take_snoc hd, show y = x + ((y - x).toNat : Int) by omega]
                  exact hc3
                · intro d' hd'
                  rw [take_snoc hd] at hd'
                  rcases List.mem_append.mp hd' with h | h
                  · exact hok d' h
                  · rw [List.mem_singleton.mp h]
                    exact g
          · rw [decide_eq_false (show ¬ y ≤ ((ns.map V.int).length : Int) by rw [List.length_map]; exact h3)]
            exact iteT (bad fun g => h3 g.2.2.1)
        · rw [decide_eq_false h2]
          exact iteF ⟨_, rfl, iteT (bad fun g => h2 g.2.1)⟩
      · rw [decide_eq_false h1]
        exact iteF ⟨_, rfl, iteT (bad fun g => h1 g.1)⟩
    · rintro σ H2 ⟨⟨x4, x5, x6, x7, rfl⟩, sm, hc2, hok⟩
      have ed : ds.take (as.map V.ref).length = ds := List.take_of_length_le (by rw [List.length_map, hD.len]; exact Nat.le_refl _)
      rw [ed] at hc2 hok
      exact ⟨_, rfl, q hok H2 c sm hc hc2⟩
end
end DR
namespace DR
open PySem PySem.Spec PyProof.Rows L2
def spLDeeds (K : PySem.W.Frag) : Sp := fun vs H Q _ => ∃ (a : Addr) (ns : List Int) (n : Int), vs = [.ref a, .int n] ∧ SqL K H a (ns.map V.int) ∧ 0 ≤ n ∧ n ≤ 1000 ∧ ns.length ≤ 63 ∧ (∀ z ∈ ns, Builtin.Int.intBits z ≤ 1048576) ∧
  ∀ H' p as ds, Same H H' → H p = none → H' p = some (.lst (as.map V.ref)) → DsAt H' as ds → DeedsOk n ds → ds.length ≤ 63 → Q (.ref p) H'
section
variable {P : Program} {w : World} {K : PySem.W.Frag} {mg : Str → Option Value} {base : Heap}
theorem scLDeeds : FnScope ["_law_script", "_law_many", "_law_found", "_law_at", "_law_cell", "_law_first", "_law_end", "_law_steps"] ["_law_script", "_law_many"] (defScope lDeeds) := ⟨rfl, rfl, rfl, by decide +kernel, rfl, by decide +kernel, by decide +kernel⟩
theorem ok_lDeeds (D : Def K mg "_law_deeds" lDeeds ["_law_script", "_law_many"]) (B : Blt mg) : Callee P w K mg base 1 "_law_deeds" ["_law_script", "_law_many"] (spLDeeds K) := by
  refine D.ok scLDeeds (fun vs H Q E h => ?_) (fun f cdv A outer s H vs Q E hr h => ?_)
  · obtain ⟨a, ns, n, rfl, _⟩ := h
    rfl
  · obtain ⟨a, ns, n, rfl, hS, hn0, hn1, hl, hb, q⟩ := h
    refine ⟨_, pss_cons (ps_set (i := 2) scLDeeds.nd rfl (.inl rfl) (pe_lst pa_nil))
      (pss_cons (ps_for PassesOwn.never rfl (pi_enum (by rfl) B.enumerate (pa_cons (pe_ifExp (pt_cmpR op_gt (pv 1) pe_int (nomark _)) (pv 0) (pe_lst pa_nil)) pa_nil)) (pg_tup (by rfl) (pgs_cons (pg_name (i := 3) scLDeeds.nd rfl (.inl rfl)) (pgs_cons (pg_name (i := 4) scLDeeds.nd rfl (.inl rfl)) pgs_nil)))
        (pss_cons (ps_set (i := 5) scLDeeds.nd rfl (.inl rfl) (pe_op op_mod (pe_op op_fdiv (pv 4) pe_int) (pv 1)))
        (pss_cons (ps_set (i := 6) scLDeeds.nd rfl (.inl rfl) (pe_op op_add (pe_op op_add (pv 5) pe_int) (pe_op op_mod (pe_op op_fdiv (pv 4) pe_int) (pe_op op_sub (pv 1) (pv 5)))))
        (pss_cons (ps_set (i := 7) scLDeeds.nd rfl (.inl rfl) (pe_ix ix_tup (pe_tup (pa_cons (pe_op op_add pe_int (pe_op op_mod (pe_op op_fdiv (pv 4) pe_int) pe_int)) (pa_cons (pe_op op_sub (pe_un un_neg pe_int) (pe_op op_mod (pe_op op_fdiv (pv 4) pe_int) pe_int)) (pa_cons (pv 4)
            (pa_cons (pe_op op_sub (pe_un un_neg pe_int) (pe_op op_mulB (pe_op op_add (pv 4) (pv 3)) (pe_op op_add (pv 4) (pv 3)))) pa_nil))))) (pe_op op_mod (pv 4) pe_int) (fun _ _ => rfl)))
        (pss_one (ps_if (pt_cmpR op_ne (pv 7) pe_int (nomark _)) (pss_one (ps_expr (pe_bm PySem.F.plainAttrs_list PySem.F.slot_list_append PySem.F.type_list_append mt_append (pv 2) (pa_cons (pe_tup (pa_cons (pv 5) (pa_cons (pv 6) (pa_cons (pv 7) pa_nil)))) pa_nil)))) pss_nil))))))
      (pss_one (ps_ret (pv 2)))), ?_⟩
    refine ⟨Nat.zero_le _, fun c hc => ?_⟩
    have s1 : Same H (upd H c (.lst [])) := same_new hc
    refine ⟨_, rfl, n, 0, rfl, rfl, _, rfl, ite2 (fun e => ?_) (fun e => ?_)⟩
    · have hn : 0 < n := of_decide_eq_true e
      refine ⟨_, rfl, a, _, rfl, s1.seq hS, for_it (walk_enum (K := K) (a := a) (xs := ns.map V.int))
        (fun i σ H3 => ∃ (x3 x4 x5 x6 x7 : Option V) (as : List Addr) (ds : List Deed), σ = [some (.ref a), some (.int n), some (.ref c), x3, x4, x5, x6, x7] ∧ Same H H3 ∧ H3 c = some (.lst (as.map V.ref)) ∧ DsAt H3 as ds ∧ DeedsOk n ds ∧ ds.length ≤ i)
        ⟨none, none, none, none, none, [], [], rfl, s1, upd_same, DsAt.nil, deedsOk_nil, Nat.zero_le _⟩ (fun i σ H3 _ h => by obtain ⟨_, _, _, _, _, _, _, _, sm, _⟩ := h; exact sm.seq hS) ?_ ?_⟩
      · rintro i y σ H3 H4 hi ⟨x3, x4, x5, x6, x7, as, ds, rfl, sm3, hc3, hD, hok, hlen⟩ ⟨t, u, v, rfl, nt, rfl, hu, hv⟩
        obtain ⟨z, hz, rfl⟩ := map_at hv
        cases hu
        have hi63 := at_lt hz
        have hbz := hb z (List.mem_of_getElem? hz)
        refine ⟨t, _, rfl, .inl (.inl upd_same), rfl, _, _, rfl, _, _, rfl, rfl, ?_⟩
        refine ⟨_, rfl, z, 3, rfl, rfl, ⟨by decide, by decide⟩, _, rfl, _, n, rfl, rfl, hn, ?_⟩
        have f0 := Int.emod_nonneg (z / 3) (show n ≠ 0 by omega)
        have f1 := Int.emod_lt_of_pos (z / 3) hn
        have g0 := Int.emod_nonneg (z / 11) (show n - z / 3 % n ≠ 0 by omega)
        have g1 := Int.emod_lt_of_pos (z / 11) (show 0 < n - z / 3 % n by omega)
        refine ⟨_, rfl, _, 1, rfl, rfl, _, rfl, z, 11, rfl, rfl, ⟨by decide, by decide⟩, _, rfl, _, rfl, n, _, rfl, rfl, _, _, rfl, rfl, (show 0 < n - z / 3 % n by omega), _, _, rfl, rfl, ?_⟩
        refine ⟨_, rfl, z, 5, rfl, rfl, ⟨by decide, by decide⟩, _, 9, rfl, rfl, (by show (0 : Int) < 9; decide), 1, _, rfl, rfl, 1, rfl, _, rfl, z, 5, rfl, rfl, ⟨by decide, by decide⟩, _, 9, rfl, rfl, (by show (0 : Int) < 9; decide), _, _, rfl, rfl, _, rfl, 1, rfl, _, rfl, _, rfl, z, _, rfl, rfl, _, rfl, _, rfl, z, _, rfl, rfl, _, _, rfl, rfl, ?_, _, _, rfl, rfl, (by show 4 ≤ sizeLine; decide), fun T hT => ?_⟩
        · have hsum : Builtin.Int.intBits (z + ((i : Nat) : Int)) ≤ 1048577 := by
            have hi64 : Builtin.Int.intBits ((i : Nat) : Int) ≤ 64 := intBits_cast_le (line_of (by omega))
            exact Nat.le_trans (intBits_add_le hbz hi64) (by decide)
          exact IntMulOk.of_le hsum hsum (by decide)
        · obtain ⟨k, hk, hk4⟩ : ∃ k : Nat, z % 4 = (k : Int) ∧ k < 4 := ⟨(z % 4).toNat, by omega, by omega⟩
          have hlk : k < ([1 + z / 5 % 9, -1 - z / 5 % 9, z, -1 - (z + ((i : Nat) : Int)) * (z + ((i : Nat) : Int))] : List Int).length := hk4
          refine ⟨_, rfl, z, 4, rfl, rfl, (by show (0 : Int) < 4; decide), T, _, _, .int _, rfl, rfl, SqT.of upd_same, at_of hk (at_map (f := V.int) (List.getElem?_eq_getElem hlk)), ?_⟩
          generalize ([1 + z / 5 % 9, -1 - z / 5 % 9, z, -1 - (z + ((i : Nat) : Int)) * (z + ((i : Nat) : Int))] : List Int)[k] = st
          have sT : Same H3 (upd H3 t (.tup [.int ((i : Nat) : Int), .int z])) := same_new nt
          have sT2 := sT.trans (same_new (o := .tup [.int (1 + z / 5 % 9), .int (-1 - z / 5 % 9), .int z, .int (-1 - (z + ((i : Nat) : Int)) * (z + ((i : Nat) : Int)))]) hT)
          have sm4 := sm3.trans sT2
          have hc4 := sT2 _ _ hc3
          refine ⟨_, rfl, rfl, _, rfl, ite2 (fun e2 => ?_) (fun e2 => ?_)⟩
          · refine ⟨_, rfl, .inl ⟨rfl, _, SqL.of hc4⟩, _, rfl, _, rfl, _, rfl, (by show 3 ≤ sizeLine; decide), fun U hU => ?_⟩
            have sU := same_new (o := .tup [.int (z / 3 % n), .int (z / 3 % n + 1 + z / 11 % (n - z / 3 % n)), .int st]) hU
            have sm5 := sm4.trans sU
            have hc5 := sU _ _ hc4
            have hcU : c ≠ U := ne_of_none hc4 hU
            refine ⟨c, _, _, rfl, rfl, hc5, ?_, ?_⟩
            · rw [List.length_map, hD.len]
              exact line_lt (by omega)
            · refine ⟨_, _, _, _, _, as ++ [U], ds ++ [(z / 3 % n, z / 3 % n + 1 + z / 11 % (n - z / 3 % n), st)], rfl, smut sm5 hc, ?_, ?_, ?_, ?_⟩
              · rw [upd_same, List.map_append]; rfl
              · have hD5 : DsAt _ as ds := hD.same (sT2.trans sU)
                have keep : ∀ (b : Addr) (d : Deed), _ = some (HO.tup (tri d)) → _ = some (HO.tup (tri d)) := fun b d (e : (upd _ U (.tup [.int (z / 3 % n), .int (z / 3 % n + 1 + z / 11 % (n - z / 3 % n)), .int st])) b = some (.tup (tri d))) => (upd_ne (H := upd _ U _) (a := c) (o := .lst (as.map V.ref ++ [.ref U])) (ne_of e hc5 (by intro q; cases q))).trans e
                exact DsAt.snoc ⟨hD5.len, fun j b e => let ⟨d, h1, h2⟩ := hD5.at_ j b e; ⟨d, h1, keep b d h2⟩⟩ (keep U _ upd_same)
              · intro d hd
                rcases List.mem_append.mp hd with h | h
                · exact hok d h
                · rw [List.mem_singleton.mp h]
                  refine ⟨f0, by show z / 3 % n < z / 3 % n + 1 + z / 11 % (n - z / 3 % n); omega, by show z / 3 % n + 1 + z / 11 % (n - z / 3 % n) ≤ n; omega, fun z0 => ?_⟩
                  have z0' : st = 0 := z0
                  rw [z0'] at e2
                  exact absurd e2 (by decide)
              · rw [List.length_append]
                show ds.length + 1 ≤ i + 1
                omega
          · exact ⟨_, _, _, _, _, as, ds, rfl, sm4, hc4, hD.same sT2, hok, by omega⟩
      · rintro σ H3 ⟨x3, x4, x5, x6, x7, as, ds, rfl, sm3, hc3, hD, hok, hlen⟩
        rw [List.length_map] at hlen
        exact ⟨_, rfl, q H3 c as ds sm3 hc hc3 hD hok (by omega)⟩
    · refine ⟨Nat.zero_le _, fun d hd => ?_⟩
      refine ⟨d, [], rfl, SqL.of upd_same, for_it (walk_enum (K := K) (a := d) (xs := []))
        (fun i σ H3 => (∃ (x3 x4 x5 x6 x7 : Option V), σ = [some (.ref a), some (.int n), some (.ref c), x3, x4, x5, x6, x7]) ∧ H3 = upd (upd H c (.lst [])) d (.lst []))
        ⟨⟨none, none, none, none, none, rfl⟩, rfl⟩ (fun i σ H3 _ h => by rw [h.2]; exact SqL.of upd_same) (fun i _ _ _ _ hi => absurd hi (Nat.not_lt_zero _)) ?_⟩
      rintro σ H3 ⟨⟨x3, x4, x5, x6, x7, rfl⟩, rfl⟩
      exact ⟨_, rfl, q _ c [] [] (s1.trans (same_new hd)) hc (by rw [upd_ne (ne_of_none upd_same hd), upd_same]; rfl) DsAt.nil deedsOk_nil (Nat.zero_le _)⟩
end
end DR
namespace DR
open PySem PySem.Spec PyProof.Rows L2
def spLaw (T : List Addr) (K : PySem.W.Frag) : Sp := fun vs H Q _ => ∃ (a : Addr) (ns : List Int), vs = [.ref a] ∧ SqL K H a (ns.map V.int) ∧ ns.length ≤ 63 ∧ (∀ z ∈ ns, Builtin.Int.intBits z ≤ 1048576) ∧ Tabs T H ∧ ∀ H', Q (.bl true) H'
abbrev NLaw : List Str := ["_law_script", "_law_size_here", "_law_row_here", "_law_deeds_here", "_law_half", "_law_some", "_law_handed", "_law_found", "_law_back", "_law_first", "_law_end", "_law_steps"]
theorem scLaw : FnScope NLaw ["_law_script"] (defScope sLaw) := ⟨rfl, rfl, rfl, by decide +kernel, rfl, by decide +kernel, by decide +kernel⟩
section
variable {P : Program} {w : World} {K : PySem.W.Frag} {mg : Str → Option Value} {base : Heap} {T : List Addr}
theorem ok_law (D : Def K mg "law" sLaw ["_law_script"]) (B : Blt mg) (GLS : Callee P w K mg base 1 "_law_size" ["_law_script"] (spLSize K)) (GLR : Callee P w K mg base 1 "_law_row" ["_law_script", "_law_size_here", "_law_by"] (spLRow K))
    (GLN : Callee P w K mg base 1 "_law_numbers" ["_law_found"] (spLNumbers K)) (GLT : Callee P w K mg base 1 "_law_turned" ["_law_size_here", "_law_row_here", "_law_deeds_here"] (spLTurned K)) (GLD : Callee P w K mg base 1 "_law_deeds" ["_law_script", "_law_many"] (spLDeeds K))
    (GT : Callee P w K mg base 6 "turned" ["size", "row", "deeds"] (spTurned T K)) : Callee P w K mg base 7 "law" ["_law_script"] (spLaw T K) := by
  refine D.ok scLaw (fun vs H Q E h => ?_) (fun f cdv A outer s H vs Q E hr h => ?_)
  · obtain ⟨a, ns, rfl, _⟩ := h
    rfl
  · obtain ⟨a, ns, rfl, hS, hlen, hbits, hTb, q⟩ := h
    have hr1 : Room 1 _ := hr.mono (by decide)
    refine ⟨_, pss_cons (ps_set (i := 0) scLaw.nd rfl (.inl rfl) (pe_slice sl_list (pv 0) po_none (po_some pe_int)))
      (pss_cons (ps_set (i := 1) scLaw.nd rfl (.inl rfl) (pe_c GLS hr1 (by rfl) (pa_cons (pv 0) pa_nil)))
      (pss_cons (ps_set (i := 2) scLaw.nd rfl (.inl rfl) (pe_c GLR hr1 (by rfl) (pa_cons (pv 0) (pa_cons (pv 1) (pa_cons pe_int pa_nil)))))
      (pss_cons (ps_set (i := 3) scLaw.nd rfl (.inl rfl) (pe_c GLD hr1 (by rfl) (pa_cons (pe_slice sl_list (pv 0) po_none (po_some pe_int)) (pa_cons (pe_callB call_len_seq (by rfl) B.len PySem.boot_len (pa_cons (pv 2) pa_nil)) pa_nil))))
      (pss_cons (ps_set (i := 4) scLaw.nd rfl (.inl rfl) (pe_op op_fdiv (pe_callB call_len_seq (by rfl) B.len PySem.boot_len (pa_cons (pv 3) pa_nil)) pe_int))
      (pss_cons (ps_for PassesOwn.never rfl (pi_list (pe_lst (pa_cons (pv 3) (pa_cons (pe_slice sl_list (pv 3) po_none (po_some (pv 4))) (pa_cons (pe_lst pa_nil) pa_nil))))) (pg_name (i := 5) scLaw.nd rfl (.inl rfl))
        (pss_cons (ps_set (i := 6) scLaw.nd rfl (.inl rfl) (pe_lst (pa_cons (pe_callTy call_list_of (by rfl) B.list PyProof.Rows.boot_list (pa_cons (pv 2) pa_nil)) (pa_cons (pe_callTy call_list_of (by rfl) B.list PyProof.Rows.boot_list (pa_cons (pv 5) pa_nil)) pa_nil))))
        (pss_cons (ps_set (i := 7) scLaw.nd rfl (.inl rfl) (pe_c GT hr (by rfl) (pa_cons (pv 1) (pa_cons (pe_ix ix_list (pv 6) pe_int (fun _ _ => rfl)) (pa_cons (pe_ix ix_list (pv 6) pe_int (fun _ _ => rfl)) pa_nil)))))
        (pss_cons (ps_if (PW.pt (pw_or (pt_not (pt_val (pe_c GLN hr1 (by rfl) (pa_cons (pv 7) pa_nil)))) (pw_or (pt_cmpR (op_neD hr.units) (pv 7) (pe_c GLT hr1 (by rfl) (pa_cons (pv 1) (pa_cons (pv 2) (pa_cons (pv 5) pa_nil)))) (nomark _))
            (pw_or1 (pt_cmpR (op_neD hr.units) (pv 6) (pe_lst (pa_cons (pv 2) (pa_cons (pv 5) pa_nil))) (nomark _)))))) (pss_one (ps_ret pe_bl)) pss_nil)
        (pss_cons (ps_setLc (i := 8) (own := [("_law_first", 9), ("_law_end", 10), ("_law_steps", 11)]) (g := gTup K 3 (gCons (gName 9) (gCons (gName 10) (gCons (gName 11) gNil)))) (tt := tYes) rfl scLaw.nd rfl rfl (sw_true rfl rfl rfl (by decide +kernel)) (pi_list (pv 5))
            (blkOk_by (N := NLaw) (sc := defScope sLaw) (by decide +kernel))
            (fun _ _ _ _ _ => pg_tup (by rfl) (pgs_cons (pg_name (i := 9) scLaw.nd rfl (.inl rfl)) (pgs_cons (pg_name (i := 10) scLaw.nd rfl (.inl rfl)) (pgs_cons (pg_name (i := 11) scLaw.nd rfl (.inl rfl)) pgs_nil)))) (fun _ _ _ _ _ => pts_nil)
            (fun _ _ _ _ _ => pe_tup (pa_cons (pv 9) (pa_cons (pv 10) (pa_cons (pe_un un_neg (pv 11)) pa_nil)))))
        (pss_cons (ps_if (pt_cmpR (op_neD hr.units) (pe_c GT hr (by rfl) (pa_cons (pv 1) (pa_cons (pv 7) (pa_cons (pv 8) pa_nil)))) (pv 2) (nomark _)) (pss_one (ps_ret pe_bl)) pss_nil)
        (pss_cons (ps_expr (pe_bm PySem.F.plainAttrs_list PySem.F.slot_list_append PySem.F.type_list_append mt_append (pv 7) (pa_cons pe_int pa_nil)))
        (pss_one (ps_if (pt_cmpR (op_neD hr.units) (pe_c GT hr (by rfl) (pa_cons (pv 1) (pa_cons (pe_ix ix_list (pv 6) pe_int (fun _ _ => rfl)) (pa_cons (pe_ix ix_list (pv 6) pe_int (fun _ _ => rfl)) pa_nil)))) (pe_slice sl_list (pv 7) po_none (po_some (pe_un un_neg pe_int))) (nomark _)) (pss_one (ps_ret pe_bl)) pss_nil)))))))))
      (pss_cons (ps_if (pt_cmpR (op_neD hr.units) (pe_c GT hr (by rfl) (pa_cons (pv 1) (pa_cons (pe_c GT hr (by rfl) (pa_cons (pv 1) (pa_cons (pv 2) (pa_cons (pe_slice sl_list (pv 3) (po_some (pv 4)) po_none) pa_nil)))) (pa_cons (pe_slice sl_list (pv 3) po_none (po_some (pv 4))) pa_nil))))
          (pe_c GT hr (by rfl) (pa_cons (pv 1) (pa_cons (pv 2) (pa_cons (pv 3) pa_nil)))) (nomark _)) (pss_one (ps_ret pe_bl)) pss_nil)
      (pss_one (ps_ret (pe_and
        (pe_cmpR (op_eqD hr.units) (pe_c GT hr (by rfl) (pa_cons pe_int (pa_cons (pe_lst (pa_cons pe_int (pa_cons pe_int (pa_cons pe_int pa_nil)))) (pa_cons (pe_lst (pa_cons (pe_tup (pa_cons pe_int (pa_cons pe_int (pa_cons pe_int pa_nil)))) (pa_cons (pe_tup (pa_cons pe_int (pa_cons pe_int (pa_cons (pe_un un_neg pe_int) pa_nil)))) pa_nil))) pa_nil))))
          (pe_lst (pa_cons pe_int (pa_cons pe_int (pa_cons pe_int pa_nil)))) (nomark _))
        (pe_one (pe_cmpR (op_eqD hr.units) (pe_c GT hr (by rfl) (pa_cons pe_int (pa_cons (pe_lst pa_nil) (pa_cons (pe_lst pa_nil) pa_nil)))) (pe_lst pa_nil) (nomark _)))))))))))), ?_⟩
    -- _law_script[:63]
    refine ⟨_, rfl, 63, rfl, a, _, rfl, hS, fun a0 ha0 => ?_⟩
    have e0 : cutV (ns.map V.int) none (some (63 : Int)) = ns.map V.int := by
      rw [show (63 : Int) = ((63 : Nat) : Int) from rfl, cut_nat, List.take_of_length_le (by rw [List.length_map]; exact hlen)]
    rw [e0]
    have s0 : Same H (upd H a0 (.lst (ns.map V.int))) := same_new ha0
    -- size, row
    refine ⟨_, rfl, a0, ns, rfl, SqL.of upd_same, fun m H1 hm2 hmx s1 => ?_⟩
    have ha1 := s1 _ _ upd_same
    refine ⟨_, rfl, _, rfl, a0, ns, m, 0, rfl, SqL.of ha1, hm2, hmx, by decide, by decide, hlen, fun row H2 r s2 hr0 hr2 hR hrl => ?_⟩
    have hrow : row.length ≤ 99 := by rw [hrl]; exact rowLen_le hlen
    have ha2 := s2 _ _ ha1
    -- deeds
    refine ⟨_, rfl, 20, rfl, a0, _, rfl, SqL.of ha2, fun a3 ha3 => ?_⟩
    have s3 : Same H2 (upd H2 a3 (.lst (cutV (ns.map V.int) none (some 20)))) := same_new ha3
    have e3 : cutV (ns.map V.int) none (some (20 : Int)) = (ns.take 20).map V.int := by
      rw [show (20 : Int) = ((20 : Nat) : Int) from rfl, cut_nat, List.map_take]
    refine ⟨_, rfl, r, _, rfl, .inl (SqL.of (s3 _ _ hr2)), a3, ns.take 20, _, rfl, ?_, ?_, ?_, ?_, ?_, fun H4 p as ds s4 hp0 hp4 hD hok hdl => ?_⟩
    · rw [← e3]; exact SqL.of upd_same
    · omega
    · rw [List.length_map]; omega
    · rw [List.length_take]; omega
    · exact fun z hz => hbits z (List.mem_of_mem_take hz)
    rw [List.length_map] at hok
    have hr4 := s4 _ _ (s3 _ _ hr2)
    have hmp : 0 < m := by omega
    have hdl2 : as.length ≤ 63 := by rw [hD.len]; exact hdl
    -- half
    refine ⟨_, rfl, p, _, rfl, .inl (SqL.of hp4), _, 2, rfl, rfl, ⟨by decide, by decide⟩, ?_⟩
    obtain ⟨hf, hhf⟩ : ∃ k : Nat, ((as.map V.ref).length : Int) / 2 = (k : Int) := ⟨(((as.map V.ref).length : Int) / 2).toNat, by omega⟩
    show gName 4 (V.int (((as.map V.ref).length : Int) / 2)) _ _ _
    rw [hhf]
    -- the loop's list
    refine ⟨_, rfl, _, rfl, _, rfl, _, rfl, p, _, rfl, SqL.of hp4, fun p5 hp5 => ⟨Nat.zero_le _, fun p6 hp6 => ⟨(by show 3 ≤ sizeLine; decide), fun L hL => ?_⟩⟩⟩
    rw [cut_nat, ← List.map_take]
    have s5 : Same H4 (upd H4 p5 (.lst ((as.take hf).map V.ref))) := same_new hp5
    rw [cut_nat, ← List.map_take] at hp6 hL
    have s6 : Same (upd H4 p5 (.lst ((as.take hf).map V.ref))) (upd (upd H4 p5 (.lst ((as.take hf).map V.ref))) p6 (.lst [])) := same_new hp6
    have s7 : Same _ (upd (upd (upd H4 p5 (.lst ((as.take hf).map V.ref))) p6 (.lst [])) L (.lst [.ref p, .ref p5, .ref p6])) := same_new hL
    have t7 : Same H4 _ := (s5.trans s6).trans s7
    have T7 := ((((((hTb.same s0).same s1).same s2).same s3).same s4).same t7)
    have hp7 := t7 _ _ hp4
    have hr7 := t7 _ _ hr4
    have hp57 := s7 _ _ (s6 _ _ upd_same)
    have hp67 := s7 _ _ upd_same
    have hL7 : (upd (upd (upd H4 p5 (.lst ((as.take hf).map V.ref))) p6 (.lst [])) L (.lst [.ref p, .ref p5, .ref p6])) L = some (.lst [.ref p, .ref p5, .ref p6]) := upd_same
    have hD7 := hD.same t7
    generalize upd (upd (upd H4 p5 (.lst ((as.take hf).map V.ref))) p6 (.lst [])) L (.lst [.ref p, .ref p5, .ref p6]) = H7 at hp7 hr7 hp57 hp67 hL7 hD7 T7
    have each : ∀ (i : Nat) (x : V), ([V.ref p, V.ref p5, V.ref p6] : List V)[i]? = some x → ∃ (c : Addr) (bs : List Addr) (es : List Deed), x = .ref c ∧ H7 c = some (.lst (bs.map V.ref)) ∧ DsAt H7 bs es ∧ DeedsOk row.length es ∧ es.length ≤ 63 := by
      intro i x hi
      match i, hi with
      | 0, hi => exact ⟨p, as, ds, (Option.some.inj hi).symm, hp7, hD7, hok, hdl⟩
      | 1, hi => exact ⟨p5, as.take hf, ds.take hf, (Option.some.inj hi).symm, hp57, hD7.take hf, hok.take hf, by rw [List.length_take]; omega⟩
      | 2, hi => exact ⟨p6, [], [], (Option.some.inj hi).symm, hp67, DsAt.nil, deedsOk_nil, Nat.zero_le _⟩
      | j + 3, hi => simp at hi
    refine ⟨L, rfl, ⟨_, SqL.of hL7⟩, for_list (K := K) (a := L) (xs := [.ref p, .ref p5, .ref p6])
      (fun i σ H8 => (∃ x5 x6 x7 x8, σ = [some (.ref a0), some (.int m), some (.ref r), some (.ref p), some (.int hf), x5, x6, x7, x8, none, none, none]) ∧ Same H7 H8)
      ⟨⟨none, none, none, none, rfl⟩, Same.refl _⟩ (fun i σ H8 _ h => SqL.of (h.2 _ _ hL7)) ?_ ?_⟩
    · rintro i x σ H8 hi ⟨⟨x5, x6, x7, x8, rfl⟩, s8⟩
      obtain ⟨c, bs, es, rfl, hc7, hE7, hok7, hel⟩ := each i x hi
      have hc8 := s8 _ _ hc7
      have hr8 := s8 _ _ hr7
      have hE8 := hE7.same s8
      have hbl : bs.length ≤ 63 := by rw [hE7.len]; exact hel
      -- _law_handed
      refine ⟨_, rfl, r, _, rfl, .inl (SqL.of hr8), fun r1 hr1f => ?_⟩
      have u1 : Same H8 (upd H8 r1 (.lst (row.map V.int))) := same_new hr1f
      refine ⟨_, rfl, c, _, rfl, .inl (SqL.of (u1 _ _ hc8)), fun c1 hc1f => ⟨(by show 2 ≤ sizeLine; decide), fun hh hhf2 => ?_⟩⟩
      have u2 : Same (upd H8 r1 (.lst (row.map V.int))) (upd (upd H8 r1 (.lst (row.map V.int))) c1 (.lst (bs.map V.ref))) := same_new hc1f
      have u3 : Same _ (upd (upd (upd H8 r1 (.lst (row.map V.int))) c1 (.lst (bs.map V.ref))) hh (.lst [.ref r1, .ref c1])) := same_new hhf2
      have v3 : Same H8 _ := (u1.trans u2).trans u3
      have hr1a := u3 _ _ (u2 _ _ upd_same)
      have hc1a := u3 _ _ upd_same
      have hha : (upd (upd (upd H8 r1 (.lst (row.map V.int))) c1 (.lst (bs.map V.ref))) hh (.lst [.ref r1, .ref c1])) hh = some (.lst [.ref r1, .ref c1]) := upd_same
      generalize upd (upd (upd H8 r1 (.lst (row.map V.int))) c1 (.lst (bs.map V.ref))) hh (.lst [.ref r1, .ref c1]) = H9 at v3 hr1a hc1a hha
      -- _law_found
      refine ⟨_, rfl, _, rfl, hh, _, 0, _, rfl, rfl, SqL.of hha, atI_nat (j := 0) rfl, _, rfl, hh, _, 1, _, rfl, rfl, SqL.of hha, atI_nat (j := 1) rfl, m, r1, c1, row, bs, es, rfl, SqL.of hr1a, SqL.of hc1a, hE8.same v3, hm2, hR, hok7, by omega, (T7.same s8).same v3, fun H10 fo w10 hfo hf10 => ?_⟩
      have v10 := v3.trans w10
      have hfo8 : H8 fo = none := v3.free hfo
      -- the first test
      refine ⟨_, rfl, fo, _, rfl, SqL.of hf10, by rw [behind_length]; omega, fun H11 w11 => ⟨true, rfl, iteF ?_⟩⟩
      have v11 := v10.trans w11
      have hf11 := w11 _ _ hf10
      refine ⟨_, rfl, _, rfl, _, rfl, _, rfl, m, r, c, row, bs, es, rfl, SqL.of (v11 _ _ hr8), SqL.of (v11 _ _ hc8), hE8.same v11, hm2, hR, by omega, fun _ H12 t w12 ht0 ht12 => ?_, fun z => absurd hok7 z⟩
      have v12 := v11.trans w12
      have hf12 := w12 _ _ hf11
      refine ⟨dI _, dI _, dp_lst (SqL.of hf12), dp_lst (SqL.of ht12), sh_dI _, sh_dI _, _, rfl, ?_⟩
      rw [eqv_dI, decide_eq_true rfl]
      refine iteF ?_
      refine ⟨_, rfl, _, rfl, _, rfl, (by show 2 ≤ sizeLine; decide), fun l hl0 => ?_⟩
      have w13 : Same H12 (upd H12 l (.lst [.ref r, .ref c])) := same_new hl0
      have v13 := v12.trans w13
      have w9_13 := ((w10.trans w11).trans w12).trans w13
      have hdp : ∀ (r' c' : Addr) (hx : Addr), (upd H12 l (.lst [.ref r, .ref c])) hx = some (.lst [.ref r', .ref c']) → (upd H12 l (.lst [.ref r, .ref c])) r' = some (.lst (row.map V.int)) → (upd H12 l (.lst [.ref r, .ref c])) c' = some (.lst (bs.map V.ref)) →
          Dp K (upd H12 l (.lst [.ref r, .ref c])) (.ref hx) (.list [dI row, dDs es]) := fun r' c' hx h1 h2 h3 => .lst (SqL.of h1) (.cons (dp_lst (SqL.of h2)) (.cons (dp_ds (SqL.of h3) (hE8.same v13)) .nil))
      have hlay : PyData.canLay0 (.list [dI row, dDs es]) = true := by simp only [PyData.canLay0, PyData.canLayAll0, lay_dI, lay_dDs, Bool.and_self]
      have hsh : SeqAt.shaped (.list [dI row, dDs es]) = true := by
        unfold SeqAt.shaped
        rw [hlay, decide_eq_true]
        · rfl
        · have := dep_dDs es
          simp only [PyData.depth, PyData.depthAll, dep_dI]
          omega
      refine ⟨_, _, hdp r1 c1 hh (w9_13 _ _ hha) (w9_13 _ _ hr1a) (w9_13 _ _ hc1a), hdp r c l upd_same (v13 _ _ hr8) (v13 _ _ hc8), hsh, hsh, _, rfl, ?_⟩
      rw [SeqAt.eqv_refl _ hlay]
      refine iteF ?_
      -- _law_back
      have hf13 := w13 _ _ hf12
      generalize upd H12 l (.lst [.ref r, .ref c]) = H13 at v13 w9_13 hf13
      refine ⟨_, rfl, c, rfl, ⟨_, SqL.of (v13 _ _ hc8)⟩, fun D hD0 => lc_list (K := K) (a := c) (xs := bs.map V.ref)
        (fun i H' => Same H13 H' ∧ ∃ cs, H' D = some (.lst (cs.map V.ref)) ∧ DsAt H' cs (negs (es.take i))) ⟨same_new hD0, [], upd_same, DsAt.nil⟩ (fun i H' _ h => SqL.of (h.1 _ _ (v13 _ _ hc8))) ?_ ?_⟩
      · rintro j y H14 hj ⟨w14, cs, hD14, hN14⟩
        obtain ⟨t', ht', rfl⟩ := ref_at hj
        obtain ⟨⟨d1, d2, d3⟩, hd, hT8⟩ := hE8.at_ j t' ht'
        have hj63 := at_lt ht'
        refine ⟨t', _, rfl, .inl (.inl (w14 _ _ (v13 _ _ hT8))), rfl, _, _, rfl, _, _, rfl, _, _, rfl, rfl, rfl, ?_⟩
        refine ⟨_, rfl, _, rfl, _, rfl, d3, rfl, (by show 3 ≤ sizeLine; decide), fun U hU => ?_⟩
        have wU : Same H14 (upd H14 U (.tup [.int d1, .int d2, .int (-d3)])) := same_new hU
        have hDU := wU _ _ hD14
        refine ⟨_, hDU, ?_, smut (w14.trans wU) hD0, cs ++ [U], ?_, ?_⟩
        · rw [List.length_map, hN14.len, negs_length, List.length_take]
          exact line_lt (by omega)
        · rw [upd_same, List.map_append]; rfl
        · have en : negs (es.take (j + 1)) = negs (es.take j) ++ [(d1, d2, -d3)] := by
            rw [take_snoc hd]
            unfold negs
            rw [List.map_append]; rfl
          rw [en]
          exact DsAt.snoc ((hN14.same wU).upd hDU) (by rw [upd_ne (ne_of upd_same hDU (by intro q; cases q)), upd_same]; rfl)
      · rintro H14 ⟨w14, cs, hD14, hN14⟩
        rw [List.take_of_length_le (show es.length ≤ (bs.map V.ref).length by rw [List.length_map, hE8.len]; exact Nat.le_refl _)] at hN14
        have v14 := v13.trans w14
        have hf14 := w14 _ _ hf13
        -- the deeds back again
        refine ⟨_, rfl, _, rfl, _, rfl, m, fo, D, behind m row es, cs, negs es, rfl, SqL.of hf14, SqL.of hD14, hN14, hm2, behind_ok hmp _ _, by rw [behind_length]; exact negs_ok hok7, by rw [behind_length]; omega, (T7.same s8).same v14, fun H15 bk w15 hbk0 hbk15 => ?_⟩
        rw [behind_back hR] at hbk15
        have v15 := v14.trans w15
        refine ⟨_, rfl, dI row, dI row, dp_lst (SqL.of hbk15), dp_lst (SqL.of (v15 _ _ hr8)), sh_dI _, sh_dI _, _, rfl, ?_⟩
        rw [eqv_dI, decide_eq_true rfl]
        refine iteF ?_
        -- append
        have hf15 := w15 _ _ hf14
        refine ⟨_, rfl, .inl ⟨rfl, _, SqL.of hf15⟩, fo, _, _, rfl, rfl, hf15, ?_, ?_⟩
        · rw [List.length_map, behind_length]
          exact line_lt (by omega)
        have w9_15 := (w9_13.trans w14).trans w15
        have nf : ∀ {b : Addr} {o : HO} [NT o], H9 b = some o → (upd H15 fo (.lst ((behind m row es).map V.int ++ [.int 0]))) b = some o := fun {b o} _ e => by rw [upd_ne (ne_of_none e hfo)]; exact w9_15 _ _ e
        have v16 : Same H8 (upd H15 fo (.lst ((behind m row es).map V.int ++ [.int 0]))) := smut v15 hfo8
        have hf16 : (upd H15 fo (.lst ((behind m row es).map V.int ++ [.int 0]))) fo = some (.lst ((behind m row es).map V.int ++ [.int 0])) := upd_same
        have a16 := nf hha
        have b16 := nf hr1a
        have c16 := nf hc1a
        generalize upd H15 fo (.lst ((behind m row es).map V.int ++ [.int 0])) = H16 at v16 hf16 a16 b16 c16
        refine ⟨_, rfl, _, rfl, hh, _, 0, _, rfl, rfl, SqL.of a16, atI_nat (j := 0) rfl, _, rfl, hh, _, 1, _, rfl, rfl, SqL.of a16, atI_nat (j := 1) rfl, m, r1, c1, row, bs, es, rfl, SqL.of b16, SqL.of c16, hE8.same v16, hm2, hR, hok7, by omega, (T7.same s8).same v16, fun H17 g w17 hg0 hg17 => ?_⟩
        refine ⟨_, rfl, 1, rfl, _, rfl, fo, _, rfl, SqL.of (w17 _ _ hf16), fun z hz0 => ?_⟩
        have w18 : Same H17 (upd H17 z (.lst (cutV ((behind m row es).map V.int ++ [.int 0]) none (some (-1))))) := same_new hz0
        refine ⟨dI (behind m row es), dI (behind m row es), dp_lst (SqL.of (w18 _ _ hg17)), dp_lst (SqL.of ?_), sh_dI _, sh_dI _, _, rfl, ?_⟩
        · rw [upd_same, cut_last]
        rw [eqv_dI, decide_eq_true rfl]
        exact iteF ⟨⟨_, _, _, _, rfl⟩, ((s8.trans v16).trans w17).trans w18⟩
    · rintro σ H8 ⟨⟨x5, x6, x7, x8, rfl⟩, s8⟩
      have hp8 := s8 _ _ hp7
      have hr8 := s8 _ _ hr7
      have hD8 := hD7.same s8
      -- by halves
      refine ⟨_, rfl, _, rfl, _, rfl, _, rfl, _, rfl, _, rfl, p, _, rfl, SqL.of hp8, fun x hx0 => ?_⟩
      have w1 : Same H8 (upd H8 x (.lst (cutV (as.map V.ref) (some (hf : Int)) none))) := same_new hx0
      have hx1 : (upd H8 x (.lst (cutV (as.map V.ref) (some (hf : Int)) none))) x = some (.lst ((as.drop hf).map V.ref)) := by rw [upd_same, cut_from, List.map_drop]
      refine ⟨m, r, x, row, as.drop hf, ds.drop hf, rfl, SqL.of (w1 _ _ hr8), SqL.of hx1, (hD8.same w1).drop hf, hm2, hR, hok.drop hf, by omega, (T7.same s8).same w1, fun H9 b1 w2 hb0 hb9 => ?_⟩
      have v2 := w1.trans w2
      refine ⟨_, rfl, _, rfl, _, rfl, p, _, rfl, SqL.of (v2 _ _ hp8), fun x2 hx20 => ?_⟩
      have w3 : Same H9 (upd H9 x2 (.lst (cutV (as.map V.ref) none (some (hf : Int))))) := same_new hx20
      have hx3 : (upd H9 x2 (.lst (cutV (as.map V.ref) none (some (hf : Int))))) x2 = some (.lst ((as.take hf).map V.ref)) := by rw [upd_same, cut_nat, List.map_take]
      have v3 := v2.trans w3
      refine ⟨m, b1, x2, behind m row (ds.drop hf), as.take hf, ds.take hf, rfl, SqL.of (w3 _ _ hb9), SqL.of hx3, (hD8.same v3).take hf, hm2, behind_ok hmp _ _, by rw [behind_length]; exact hok.take hf, by rw [behind_length]; omega, (T7.same s8).same v3, fun H10 b2 w4 hb20 hb210 => ?_⟩
      have v4 := v3.trans w4
      refine ⟨_, rfl, _, rfl, _, rfl, m, r, p, row, as, ds, rfl, SqL.of (v4 _ _ hr8), SqL.of (v4 _ _ hp8), hD8.same v4, hm2, hR, hok, by omega, (T7.same s8).same v4, fun H11 b3 w5 hb30 hb311 => ?_⟩
      rw [behind_behind, behind_comm, List.take_append_drop] at hb210
      refine ⟨dI _, dI _, dp_lst (SqL.of (w5 _ _ hb210)), dp_lst (SqL.of hb311), sh_dI _, sh_dI _, _, rfl, ?_⟩
      rw [eqv_dI, decide_eq_true rfl]
      refine iteF ?_
      -- the written ones
      refine ⟨by show 3 ≤ sizeLine; decide, fun y1 hy1 => ⟨by show 3 ≤ sizeLine; decide, fun y2 hy2 => ⟨14, rfl, by show 3 ≤ sizeLine; decide, fun y3 hy3 => ⟨by show 2 ≤ sizeLine; decide, fun y4 hy4 => ?_⟩⟩⟩⟩
      have z1 : Same _ (upd (upd H11 y1 (.lst [.int 9, .int 0, .int 5])) y2 (.tup [.int 0, .int 2, .int 3])) := same_new hy2
      have z2 : Same _ (upd (upd (upd H11 y1 (.lst [.int 9, .int 0, .int 5])) y2 (.tup [.int 0, .int 2, .int 3])) y3 (.tup [.int 1, .int 3, .int (-14)])) := same_new hy3
      have z3 : Same _ (upd (upd (upd (upd H11 y1 (.lst [.int 9, .int 0, .int 5])) y2 (.tup [.int 0, .int 2, .int 3])) y3 (.tup [.int 1, .int 3, .int (-14)])) y4 (.lst [.ref y2, .ref y3])) := same_new hy4
      have T12 := ((((((T7.same s8).same v4).same w5).same (same_new (o := .lst [.int 9, .int 0, .int 5]) hy1)).same z1).same z2).same z3
      have g1 := z3 _ _ (z2 _ _ (z1 _ _ (upd_same (H := H11) (a := y1))))
      have g2 := z3 _ _ (z2 _ _ upd_same)
      have g3 := z3 _ _ upd_same
      refine ⟨10, y1, y4, [9, 0, 5], [y2, y3], [(0, 2, 3), (1, 3, -14)], rfl, SqL.of g1, SqL.of upd_same, (DsAt.one g2).append (DsAt.one g3), by decide, ?_, ?_, by decide, T12, fun H12 b4 w6 hb40 hb412 => ?_⟩
      · intro x hx
        simp only [List.mem_cons, List.not_mem_nil, or_false] at hx
        omega
      · intro d hd
        simp only [List.mem_cons, List.not_mem_nil, or_false] at hd
        rcases hd with rfl | rfl <;> exact ⟨by decide, by decide, by decide, by decide⟩
      refine ⟨by show 3 ≤ sizeLine; decide, fun y5 hy5 => ?_⟩
      have z4 : Same H12 (upd H12 y5 (.lst [.int 2, .int 9, .int 1])) := same_new hy5
      refine ⟨dI _, dI [2, 9, 1], dp_lst (SqL.of (z4 _ _ hb412)), dp_lst (ns := [2, 9, 1]) (SqL.of upd_same), sh_dI _, sh_dI _, _, rfl, ?_⟩
      rw [eqv_dI, decide_eq_true (by decide)]
      refine iteT ⟨Nat.zero_le _, fun y6 hy6 => ⟨Nat.zero_le _, fun y7 hy7 => ?_⟩⟩
      have z5 : Same _ (upd (upd (upd H12 y5 (.lst [.int 2, .int 9, .int 1])) y6 (.lst [])) y7 (.lst [])) := same_new hy7
      refine ⟨2, y6, y7, [], [], [], rfl, SqL.of (z5 _ _ upd_same), SqL.of upd_same, DsAt.nil, by decide, rowOk_nil, deedsOk_nil, by decide, (((T12.same w6).same z4).same (same_new (o := .lst []) hy6)).same z5, fun H13 b5 w7 hb50 hb513 => ?_⟩
      refine ⟨Nat.zero_le _, fun y8 hy8 => ?_⟩
      have z6 : Same H13 (upd H13 y8 (.lst [])) := same_new hy8
      refine ⟨dI _, dI [], dp_lst (SqL.of (z6 _ _ hb513)), dp_lst (ns := []) (SqL.of upd_same), sh_dI _, sh_dI _, ?_⟩
      rw [eqv_dI, decide_eq_true (by decide)]
      exact q _
end
end DR
namespace DR
open PySem PySem.Spec PyProof.Rows L2
theorem all_mk {l : PySem.W.OpenLaw} {q : Program} {w : World} {K : PySem.W.Frag} {h : Heap} {mg : Str → Option Value} {fa : Addr} (X : K.In h) (G : h.Ns mainGlobals mg) (hfa : mg "law" = some (.ref fa))
    (TT : ∀ (y : Str) (c P : Addr), ((recsOf q).find? fun e => e.name == y).isSome = true → PySem.W.tabIn K y = some (c, P) → PySem.W.CodeHd h c P ∧ h.get? P = some { cls := .none, data := .fields #[] })
    {f1 f2 f3 f4 f5 f6 f7 f8 f9 f10 f11 f12 f13 : Addr}
    {od1 an1 od2 an2 od3 an3 od4 an4 od5 an5 od6 an6 od7 an7 od8 an8 od9 an9 od10 an10 od11 an11 od12 an12 od13 an13 : Option Addr} {sl1 sl2 sl3 sl4 sl5 sl6 sl7 sl8 sl9 sl10 sl11 sl12 sl13 : Array (Option Value)} {oc1 kV1 dc1 pm1 ct1 cd1 oc2 kV2 dc2 pm2 ct2 cd2 oc3 kV3 dc3 pm3 ct3 cd3 oc4 kV4 dc4 pm4 ct4 cd4 oc5 kV5 dc5 pm5 ct5 oc6 kV6 dc6 pm6 ct6 cd6 oc7 kV7 dc7 pm7 ct7 cd7 oc8 kV8 dc8 pm8 ct8 cd8 oc9 kV9 dc9 pm9 ct9 cd9 oc10 kV10 dc10 pm10 ct10 cd10 oc11 kV11 dc11 pm11 ct11 cd11 oc12 kV12 dc12 pm12 ct12 cd12 oc13 kV13 dc13 pm13 ct13 cd13 : Value}
    {c5 P5 : Addr} {ec5 : Value} {dd5 : Option Addr} {vs5 : Array Value} {sc5 : Array (Option Value)}
    (a1 : PySem.W.nsIn K mainGlobals "is_number" = some (some (.ref f1))) (l1 : K.lookup f1 = some ⟨oc1, od1, .func (PySem.W.fnOf "is_number" "is_number" (defArgs sNum) (defBody sNum) (defScope sNum) .none kV1 dc1 pm1 an1 cd1 ct1), sl1⟩) (e1 : PySem.W.codeIn K cd1 "is_number" = true) (k1 : PySem.W.keepIn K (.ref f1) = true)
    (a2 : PySem.W.nsIn K mainGlobals "check_size" = some (some (.ref f2))) (l2 : K.lookup f2 = some ⟨oc2, od2, .func (PySem.W.fnOf "check_size" "check_size" (defArgs sSize) (defBody sSize) (defScope sSize) .none kV2 dc2 pm2 an2 cd2 ct2), sl2⟩) (e2 : PySem.W.codeIn K cd2 "check_size" = true) (k2 : PySem.W.keepIn K (.ref f2) = true)
    (a3 : PySem.W.nsIn K mainGlobals "check_row" = some (some (.ref f3))) (l3 : K.lookup f3 = some ⟨oc3, od3, .func (PySem.W.fnOf "check_row" "check_row" (defArgs sRow) (defBody sRow) (defScope sRow) .none kV3 dc3 pm3 an3 cd3 ct3), sl3⟩) (e3 : PySem.W.codeIn K cd3 "check_row" = true) (k3 : PySem.W.keepIn K (.ref f3) = true)
    (a4 : PySem.W.nsIn K mainGlobals "is_deed" = some (some (.ref f4))) (l4 : K.lookup f4 = some ⟨oc4, od4, .func (PySem.W.fnOf "is_deed" "is_deed" (defArgs sDeed) (defBody sDeed) (defScope sDeed) .none kV4 dc4 pm4 an4 cd4 ct4), sl4⟩) (e4 : PySem.W.codeIn K cd4 "is_deed" = true) (k4 : PySem.W.keepIn K (.ref f4) = true)
    (a5 : PySem.W.nsIn K mainGlobals "are_deeds" = some (some (.ref f5))) (l5 : K.lookup f5 = some ⟨oc5, od5, .func (PySem.W.fnOf "are_deeds" "are_deeds" (defArgs sAre) (defBody sAre) (defScope sAre) .none kV5 dc5 pm5 an5 (.ref c5) ct5), sl5⟩) (e5 : PySem.W.codeIn K (.ref c5) "are_deeds" = true) (k5 : PySem.W.keepIn K (.ref f5) = true)
    (lc5 : K.lookup c5 = some ⟨ec5, dd5, .fields vs5, sc5⟩) (v5 : vs5[11]? = some (.ref P5)) (nP5 : K.lookup P5 = none) (rc5 : ((recsOf q).find? fun e => e.name == ("are_deeds" : Str)).isSome = true)
    (a6 : PySem.W.nsIn K mainGlobals "check_deeds" = some (some (.ref f6))) (l6 : K.lookup f6 = some ⟨oc6, od6, .func (PySem.W.fnOf "check_deeds" "check_deeds" (defArgs sDeeds) (defBody sDeeds) (defScope sDeeds) .none kV6 dc6 pm6 an6 cd6 ct6), sl6⟩) (e6 : PySem.W.codeIn K cd6 "check_deeds" = true) (k6 : PySem.W.keepIn K (.ref f6) = true)
    (a7 : PySem.W.nsIn K mainGlobals "turned" = some (some (.ref f7))) (l7 : K.lookup f7 = some ⟨oc7, od7, .func (PySem.W.fnOf "turned" "turned" (defArgs sTurned) (defBody sTurned) (defScope sTurned) .none kV7 dc7 pm7 an7 cd7 ct7), sl7⟩) (e7 : PySem.W.codeIn K cd7 "turned" = true) (k7 : PySem.W.keepIn K (.ref f7) = true)
    (a8 : PySem.W.nsIn K mainGlobals "_law_size" = some (some (.ref f8))) (l8 : K.lookup f8 = some ⟨oc8, od8, .func (PySem.W.fnOf "_law_size" "_law_size" (defArgs lSize) (defBody lSize) (defScope lSize) .none kV8 dc8 pm8 an8 cd8 ct8), sl8⟩) (e8 : PySem.W.codeIn K cd8 "_law_size" = true) (k8 : PySem.W.keepIn K (.ref f8) = true)
    (a9 : PySem.W.nsIn K mainGlobals "_law_row" = some (some (.ref f9))) (l9 : K.lookup f9 = some ⟨oc9, od9, .func (PySem.W.fnOf "_law_row" "_law_row" (defArgs lRow) (defBody lRow) (defScope lRow) .none kV9 dc9 pm9 an9 cd9 ct9), sl9⟩) (e9 : PySem.W.codeIn K cd9 "_law_row" = true) (k9 : PySem.W.keepIn K (.ref f9) = true)
    (a10 : PySem.W.nsIn K mainGlobals "_law_numbers" = some (some (.ref f10))) (l10 : K.lookup f10 = some ⟨oc10, od10, .func (PySem.W.fnOf "_law_numbers" "_law_numbers" (defArgs lNumbers) (defBody lNumbers) (defScope lNumbers) .none kV10 dc10 pm10 an10 cd10 ct10), sl10⟩) (e10 : PySem.W.codeIn K cd10 "_law_numbers" = true) (k10 : PySem.W.keepIn K (.ref f10) = true)
    (a11 : PySem.W.nsIn K mainGlobals "_law_turned" = some (some (.ref f11))) (l11 : K.lookup f11 = some ⟨oc11, od11, .func (PySem.W.fnOf "_law_turned" "_law_turned" (defArgs lTurned) (defBody lTurned) (defScope lTurned) .none kV11 dc11 pm11 an11 cd11 ct11), sl11⟩) (e11 : PySem.W.codeIn K cd11 "_law_turned" = true) (k11 : PySem.W.keepIn K (.ref f11) = true)
    (a12 : PySem.W.nsIn K mainGlobals "_law_deeds" = some (some (.ref f12))) (l12 : K.lookup f12 = some ⟨oc12, od12, .func (PySem.W.fnOf "_law_deeds" "_law_deeds" (defArgs lDeeds) (defBody lDeeds) (defScope lDeeds) .none kV12 dc12 pm12 an12 cd12 ct12), sl12⟩) (e12 : PySem.W.codeIn K cd12 "_law_deeds" = true) (k12 : PySem.W.keepIn K (.ref f12) = true)
    (a13 : PySem.W.nsIn K mainGlobals "law" = some (some (.ref f13))) (l13 : K.lookup f13 = some ⟨oc13, od13, .func (PySem.W.fnOf "law" "law" (defArgs sLaw) (defBody sLaw) (defScope sLaw) .none kV13 dc13 pm13 an13 cd13 ct13), sl13⟩) (e13 : PySem.W.codeIn K cd13 "law" = true) (k13 : PySem.W.keepIn K (.ref f13) = true)
    (z0 : PySem.W.nsIn K mainGlobals "isinstance" = some none)
    (z1 : PySem.W.nsIn K mainGlobals "int" = some none)
    (z2 : PySem.W.nsIn K mainGlobals "bool" = some none)
    (z3 : PySem.W.nsIn K mainGlobals "list" = some none)
    (z4 : PySem.W.nsIn K mainGlobals "tuple" = some none)
    (z5 : PySem.W.nsIn K mainGlobals "len" = some none)
    (z6 : PySem.W.nsIn K mainGlobals "enumerate" = some none)
    (z7 : PySem.W.nsIn K mainGlobals "sum" = some none)
    (z8 : PySem.W.nsIn K mainGlobals "range" = some none)
    (z9 : PySem.W.nsIn K mainGlobals "all" = some none)
    : LamX.LawAtS l w K CX0 7 63 "_law_script" mg fa h := by
  have e := hfa.symm.trans (PySem.W.mg_of X G a13)
  cases e
  have B : Blt mg := ⟨PySem.W.mg_none_of X G z0, PySem.W.mg_none_of X G z1, PySem.W.mg_none_of X G z2, PySem.W.mg_none_of X G z3, PySem.W.mg_none_of X G z4, PySem.W.mg_none_of X G z5, PySem.W.mg_none_of X G z6, PySem.W.mg_none_of X G z7, PySem.W.mg_none_of X G z8, PySem.W.mg_none_of X G z9⟩
  have D1 : Def K mg "is_number" sNum ["thing"] := def_mk X G a1 l1 e1 k1 fun _ _ _ _ _ _ us hl => match us, hl with | [_], _ => rfl
  have D2 : Def K mg "check_size" sSize ["size"] := def_mk X G a2 l2 e2 k2 fun _ _ _ _ _ _ us hl => match us, hl with | [_], _ => rfl
  have D3 : Def K mg "check_row" sRow ["size", "row"] := def_mk X G a3 l3 e3 k3 fun _ _ _ _ _ _ us hl => match us, hl with | [_, _], _ => rfl
  have D4 : Def K mg "is_deed" sDeed ["dials", "thing"] := def_mk X G a4 l4 e4 k4 fun _ _ _ _ _ _ us hl => match us, hl with | [_, _], _ => rfl
  have D5 : DefT K mg "are_deeds" sAre ["dials", "things"] c5 := defT_mk X G a5 l5 e5 k5 fun _ _ _ _ _ _ us hl => match us, hl with | [_, _], _ => rfl
  have U5 := TT "are_deeds" c5 P5 rc5 (tabIn_of a5 l5 rfl lc5 v5)
  have D6 : Def K mg "check_deeds" sDeeds ["dials", "deeds"] := def_mk X G a6 l6 e6 k6 fun _ _ _ _ _ _ us hl => match us, hl with | [_, _], _ => rfl
  have D7 : Def K mg "turned" sTurned ["size", "row", "deeds"] := def_mk X G a7 l7 e7 k7 fun _ _ _ _ _ _ us hl => match us, hl with | [_, _, _], _ => rfl
  have D8 : Def K mg "_law_size" lSize ["_law_script"] := def_mk X G a8 l8 e8 k8 fun _ _ _ _ _ _ us hl => match us, hl with | [_], _ => rfl
  have D9 : Def K mg "_law_row" lRow ["_law_script", "_law_size_here", "_law_by"] := def_mk X G a9 l9 e9 k9 fun _ _ _ _ _ _ us hl => match us, hl with | [_, _, _], _ => rfl
  have D10 : Def K mg "_law_numbers" lNumbers ["_law_found"] := def_mk X G a10 l10 e10 k10 fun _ _ _ _ _ _ us hl => match us, hl with | [_], _ => rfl
  have D11 : Def K mg "_law_turned" lTurned ["_law_size_here", "_law_row_here", "_law_deeds_here"] := def_mk X G a11 l11 e11 k11 fun _ _ _ _ _ _ us hl => match us, hl with | [_, _, _], _ => rfl
  have D12 : Def K mg "_law_deeds" lDeeds ["_law_script", "_law_many"] := def_mk X G a12 l12 e12 k12 fun _ _ _ _ _ _ us hl => match us, hl with | [_, _], _ => rfl
  have D13 : Def K mg "law" sLaw ["_law_script"] := def_mk X G a13 l13 e13 k13 fun _ _ _ _ _ _ us hl => match us, hl with | [_], _ => rfl
  refine ⟨PySem.W.fnOf "law" "law" (defArgs sLaw) (defBody sLaw) (defScope sLaw) .none kV13 dc13 pm13 an13 cd13 ct13, [(c5, P5)], spLaw [P5] K, ?_, ?_, ?_, fun s v => .of_eq rfl, ?_, fun base _ _ TB => ?_⟩
  · intro p hp
    simp only [List.mem_cons, List.not_mem_nil, or_false] at hp
    rcases hp with rfl
    · exact U5.2
  · intro p hp
    simp only [List.mem_cons, List.not_mem_nil, or_false] at hp
    rcases hp with rfl
    · exact nP5
  · intro p hp
    simp only [List.mem_cons, List.not_mem_nil, or_false] at hp
    rcases hp with rfl
    · exact U5.1
  · intro H a ns hl hb hc hS
    have ht : Tabs [P5] H := tabs_of (cs := [(c5, P5)]) hc
    exact ⟨a, ns, rfl, hS, hl, hb, ht, fun _ => rfl⟩
  · have TB5 := tb_of (TB (c5, P5) (by simp))
    have GN := ok_num (P := l.prog) (w := w) (base := base) D1 B
    have GT := ok_turned D7 B (ok_size D2 GN) (ok_row D3 B GN) (ok_deeds D6 B (ok_are (T := [P5]) D5 TB5 (by simp) B (ok_deedB D4 B GN)))
    exact (ok_law D13 B (ok_lSize D8 B) (ok_lRow D9 B) (ok_lNumbers D10 B) (ok_lTurned D11 B) (ok_lDeeds D12 B) GT).at (PySem.W.mg_of X G a13) l13
end DR
open PySem PySem.W PyProof.Rows
set_option maxRecDepth 100000 in
set_option maxHeartbeats 0 in
theorem PySem.Challenge.cw_dialrow_k01_whole_turned_holds : PySem.Challenge.rw_dialrow_k01_whole_turned.Holds := by
  w_on; o_law; k_head; (case hw => w_witness2)
  k_fill
  refine DR.walk_ofD (l := PySem.Challenge.rw_dialrow_k01_whole_turned) (n := 63) (k := 7) (x := "_law_script") (CX := fun w => L2.CX0) rfl (by decide) rfl ⟨rfl, by decide, by decide⟩ (fun w h Y => PySem.W.kIn_of Y) ?F (fun _ _ _ _ _ h => h)
  case F =>
    intro w mg fa h Y KX G hmg TT
    refine' DR.all_mk KX G hmg TT ?a1 ?l1 ?e1 ?k1 ?a2 ?l2 ?e2 ?k2 ?a3 ?l3 ?e3 ?k3 ?a4 ?l4 ?e4 ?k4 ?a5 ?l5 ?e5 ?k5 ?lc5 ?v5 ?nP5 ?rc5 ?a6 ?l6 ?e6 ?k6 ?a7 ?l7 ?e7 ?k7 ?a8 ?l8 ?e8 ?k8 ?a9 ?l9 ?e9 ?k9 ?a10 ?l10 ?e10 ?k10 ?a11 ?l11 ?e11 ?k11 ?a12 ?l12 ?e12 ?k12 ?a13 ?l13 ?e13 ?k13 ?z0 ?z1 ?z2 ?z3 ?z4 ?z5 ?z6 ?z7 ?z8 ?z9
    (case a1 => k_is)
    (case l1 => k_is)
    (case e1 => k_is)
    (case k1 => k_is)
    (case a2 => k_is)
    (case l2 => k_is)
    (case e2 => k_is)
    (case k2 => k_is)
    (case a3 => k_is)
    (case l3 => k_is)
    (case e3 => k_is)
    (case k3 => k_is)
    (case a4 => k_is)
    (case l4 => k_is)
    (case e4 => k_is)
    (case k4 => k_is)
    (case a5 => k_is)
    (case l5 => k_is)
    (case e5 => k_is)
    (case k5 => k_is)
    (case lc5 => k_is)
    (case v5 => exact rfl)
    (case nP5 => kernel_rfl)
    (case rc5 => kernel_rfl)
    (case a6 => k_is)
    (case l6 => k_is)
    (case e6 => k_is)
    (case k6 => k_is)
    (case a7 => k_is)
    (case l7 => k_is)
    (case e7 => k_is)
    (case k7 => k_is)
    (case a8 => k_is)
    (case l8 => k_is)
    (case e8 => k_is)
    (case k8 => k_is)
    (case a9 => k_is)
    (case l9 => k_is)
    (case e9 => k_is)
    (case k9 => k_is)
    (case a10 => k_is)
    (case l10 => k_is)
    (case e10 => k_is)
    (case k10 => k_is)
    (case a11 => k_is)
    (case l11 => k_is)
    (case e11 => k_is)
    (case k11 => k_is)
    (case a12 => k_is)
    (case l12 => k_is)
    (case e12 => k_is)
    (case k12 => k_is)
    (case a13 => k_is)
    (case l13 => k_is)
    (case e13 => k_is)
    (case k13 => k_is)
    (case z0 => k_is)
    (case z1 => k_is)
    (case z2 => k_is)
    (case z3 => k_is)
    (case z4 => k_is)
    (case z5 => k_is)
    (case z6 => k_is)
    (case z7 => k_is)
    (case z8 => k_is)
    (case z9 => k_is)
#print axioms PySem.Challenge.cw_dialrow_k01_whole_turned_holds
