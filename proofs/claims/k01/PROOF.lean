import PyProof.Rows.All
import Wide.All
import OpenK.AllK
import Wide.FinOn
import HandS.Base
import HandS.Call
import HandS.List
import HandS.Comp
import HandS.Ends
import HandS.EndBits
import HandS.Iter
import HandS.Words
import HandS.WordsList
import HandS.IsInst
import HandS.Walk
import HandS.Wide
import HandS.Evl
import KE.IntBitsLaws
import PySem.Challenge.RW_dialrow_k01_whole_turned
set_option Elab.async false
set_option linter.all false
set_option maxRecDepth 100000
set_option maxHeartbeats 4000000
/-! Dialrow: the mathematics of deeds. -/
namespace DR
abbrev Deed := Int × Int × Int
/-- how far the dial at i is turned by deeds -/
def cover : List Deed → Int → Int
  | [], _ => 0
  | d :: r, i => (if d.1 ≤ i ∧ i < d.2.1 then d.2.2 else 0) + cover r i
theorem cover_append (a b : List Deed) (i : Int) : cover (a ++ b) i = cover a i + cover b i := by
  induction a with
  | nil => show cover b i = 0 + cover b i; omega
  | cons d r ih =>
    show _ + cover (r ++ b) i = (_ + cover r i) + cover b i
    rw [ih]; omega
/-- the row behind deeds -/
def behind (m : Int) (ns : List Int) (ds : List Deed) : List Int := ns.mapIdx fun i x => (x + cover ds (i : Int)) % m
theorem behind_length (m : Int) (ns : List Int) (ds : List Deed) : (behind m ns ds).length = ns.length := by
  unfold behind; rw [List.length_mapIdx]
theorem behind_get (m : Int) (ns : List Int) (ds : List Deed) (i : Nat) : (behind m ns ds)[i]? = ns[i]?.map fun x => (x + cover ds (i : Int)) % m := by
  unfold behind; rw [List.getElem?_mapIdx]
/-- a row of the size -/
def RowOk (m : Int) (ns : List Int) : Prop := ∀ x ∈ ns, 0 ≤ x ∧ x < m
def DeedOk (n : Int) (d : Deed) : Prop := 0 ≤ d.1 ∧ d.1 < d.2.1 ∧ d.2.1 ≤ n ∧ d.2.2 ≠ 0
def DeedsOk (n : Int) (ds : List Deed) : Prop := ∀ d ∈ ds, DeedOk n d
theorem behind_ok {m : Int} (hm : 0 < m) (ns : List Int) (ds : List Deed) : RowOk m (behind m ns ds) := by
  intro x hx
  obtain ⟨i, hi⟩ := List.mem_iff_getElem?.mp hx
  rw [behind_get] at hi
  cases e : ns[i]? with
  | none => rw [e] at hi; cases hi
  | some y =>
    rw [e] at hi
    have e2 : (y + cover ds (i : Int)) % m = x := Option.some.inj hi
    rw [← e2]
    exact ⟨Int.emod_nonneg _ (by omega), Int.emod_lt_of_pos _ hm⟩
theorem behind_nil {m : Int} {ns : List Int} (h : RowOk m ns) : behind m ns [] = ns := by
  refine List.ext_getElem? fun i => ?_
  rw [behind_get]
  cases e : ns[i]? with
  | none => rfl
  | some y =>
    have := h y (List.mem_of_getElem? e)
    show some ((y + 0) % m) = some y
    rw [Int.add_zero, Int.emod_eq_of_lt this.1 this.2]
theorem behind_behind (m : Int) (ns : List Int) (a b : List Deed) : behind m (behind m ns a) b = behind m ns (a ++ b) := by
  refine List.ext_getElem? fun i => ?_
  rw [behind_get, behind_get, behind_get]
  cases ns[i]? with
  | none => rfl
  | some y =>
    show some (((y + cover a i) % m + cover b i) % m) = some ((y + cover (a ++ b) i) % m)
    rw [cover_append, Int.emod_add_emod, Int.add_assoc]
theorem behind_congr (m : Int) (ns : List Int) {a b : List Deed} (h : ∀ i : Nat, i < ns.length → cover a i % m = cover b i % m) : behind m ns a = behind m ns b := by
  refine List.ext_getElem? fun i => ?_
  rw [behind_get, behind_get]
  cases e : ns[i]? with
  | none => rfl
  | some y =>
    have hi := (List.getElem?_eq_some_iff.mp e).1
    show some ((y + cover a i) % m) = some ((y + cover b i) % m)
    rw [← Int.add_emod_emod, h i hi, Int.add_emod_emod]
theorem cover_comm (a b : List Deed) (i : Int) : cover (a ++ b) i = cover (b ++ a) i := by
  rw [cover_append, cover_append]; omega
theorem behind_comm (m : Int) (ns : List Int) (a b : List Deed) : behind m ns (a ++ b) = behind m ns (b ++ a) :=
  behind_congr m ns fun i _ => by rw [cover_comm]
/-- the deeds back again -/
def negs (ds : List Deed) : List Deed := ds.map fun d => (d.1, d.2.1, -d.2.2)
theorem cover_negs (ds : List Deed) (i : Int) : cover (negs ds) i = -cover ds i := by
  induction ds with
  | nil => rfl
  | cons d r ih =>
    show (if d.1 ≤ i ∧ i < d.2.1 then -d.2.2 else 0) + cover (negs r) i = -((if d.1 ≤ i ∧ i < d.2.1 then d.2.2 else 0) + cover r i)
    rw [ih]
    split <;> omega
theorem negs_length (ds : List Deed) : (negs ds).length = ds.length := by unfold negs; rw [List.length_map]
theorem negs_ok {n : Int} {ds : List Deed} (h : DeedsOk n ds) : DeedsOk n (negs ds) := by
  intro d hd
  obtain ⟨c, hc, e⟩ := List.mem_map.mp hd
  subst e
  obtain ⟨h1, h2, h3, h4⟩ := h c hc
  exact ⟨h1, h2, h3, by show -c.2.2 ≠ 0; omega⟩
theorem behind_back {m : Int} {ns : List Int} (h : RowOk m ns) (ds : List Deed) : behind m (behind m ns ds) (negs ds) = ns := by
  rw [behind_behind, behind_congr m ns (b := []) fun i _ => by rw [cover_append, cover_negs, Int.add_right_neg]; rfl]
  exact behind_nil h
/-! ### the marks at the ends of stretches -/
def bump (c : List Int) (k : Nat) (s : Int) : List Int := c.set k (c.getD k 0 + s)
theorem bump_length (c : List Int) (k : Nat) (s : Int) : (bump c k s).length = c.length := by unfold bump; rw [List.length_set]
theorem bump_take : ∀ (c : List Int) (k : Nat) (s : Int) (m : Nat), k < c.length → ((bump c k s).take m).sum = (c.take m).sum + if k < m then s else 0
  | [], k, s, m, h => by simp at h
  | x :: r, k, s, 0, h => by simp
  | x :: r, 0, s, m + 1, h => by
    show ((x + s) :: r.take m).sum = (x :: r.take m).sum + if 0 < m + 1 then s else 0
    rw [List.sum_cons, List.sum_cons, if_pos (by omega)]; omega
  | x :: r, k + 1, s, m + 1, h => by
    have ih := bump_take r k s m (by simpa using h)
    show (x :: (bump r k s).take m).sum = (x :: r.take m).sum + if k + 1 < m + 1 then s else 0
    rw [List.sum_cons, List.sum_cons, ih]
    by_cases q : k < m
    · rw [if_pos q, if_pos (by omega)]; omega
    · rw [if_neg q, if_neg (by omega)]; omega
def mark1 (c : List Int) (d : Deed) : List Int := bump (bump c d.1.toNat d.2.2) d.2.1.toNat (-d.2.2)
theorem mark1_length (c : List Int) (d : Deed) : (mark1 c d).length = c.length := by unfold mark1; rw [bump_length, bump_length]
def marks (n : Nat) (ds : List Deed) : List Int := ds.foldl mark1 (List.replicate (n + 1) 0)
theorem foldl_mark_length : ∀ (ds : List Deed) (c : List Int), (ds.foldl mark1 c).length = c.length
  | [], c => rfl
  | d :: r, c => by
    show (r.foldl mark1 (mark1 c d)).length = c.length
    rw [foldl_mark_length r, mark1_length]
theorem marks_length (n : Nat) (ds : List Deed) : (marks n ds).length = n + 1 := by
  unfold marks; rw [foldl_mark_length, List.length_replicate]
theorem mark1_take {c : List Int} {d : Deed} {n : Int} (hc : (c.length : Int) = n + 1) (hd : DeedOk n d) (i : Nat) :
    ((mark1 c d).take (i + 1)).sum = (c.take (i + 1)).sum + if d.1 ≤ (i : Int) ∧ (i : Int) < d.2.1 then d.2.2 else 0 := by
  obtain ⟨h1, h2, h3, h4⟩ := hd
  unfold mark1
  rw [bump_take _ _ _ _ (by rw [bump_length]; omega), bump_take _ _ _ _ (by omega)]
  by_cases p : d.1 ≤ (i : Int)
  · rw [if_pos (show d.1.toNat < i + 1 by omega)]
    by_cases q : (i : Int) < d.2.1
    · rw [if_neg (show ¬ d.2.1.toNat < i + 1 by omega), if_pos ⟨p, q⟩]; omega
    · rw [if_pos (show d.2.1.toNat < i + 1 by omega), if_neg (fun z => q z.2)]; omega
  · rw [if_neg (show ¬ d.1.toNat < i + 1 by omega), if_neg (show ¬ d.2.1.toNat < i + 1 by omega), if_neg (fun z => p z.1)]; omega
theorem sum_zeros : ∀ (n m : Nat), ((List.replicate n (0 : Int)).take m).sum = 0
  | 0, m => by simp
  | n + 1, 0 => by simp
  | n + 1, m + 1 => by
    show ((0 : Int) :: (List.replicate n (0 : Int)).take m).sum = 0
    rw [List.sum_cons, sum_zeros n m]; rfl
theorem foldl_mark_take : ∀ (ds : List Deed) (c : List Int) (n : Int), (c.length : Int) = n + 1 → DeedsOk n ds → ∀ i : Nat, ((ds.foldl mark1 c).take (i + 1)).sum = (c.take (i + 1)).sum + cover ds i
  | [], c, n, hc, hd, i => by show _ = _ + (0 : Int); rw [Int.add_zero]; rfl
  | d :: r, c, n, hc, hd, i => by
    have ih := foldl_mark_take r (mark1 c d) n (by rw [mark1_length]; exact hc) (fun x hx => hd x (List.mem_cons_of_mem _ hx)) i
    show ((r.foldl mark1 (mark1 c d)).take (i + 1)).sum = _ + (_ + cover r i)
    rw [ih, mark1_take hc (hd d List.mem_cons_self)]; omega
theorem marks_take {n : Nat} {ds : List Deed} (h : DeedsOk n ds) (i : Nat) : ((marks n ds).take (i + 1)).sum = cover ds i := by
  unfold marks
  rw [foldl_mark_take ds _ (n : Int) (by rw [List.length_replicate]; omega) h i, sum_zeros]; omega
theorem marks_snoc (n : Nat) (ds : List Deed) (d : Deed) : marks n (ds ++ [d]) = mark1 (marks n ds) d := by
  unfold marks; rw [List.foldl_append]; rfl
theorem take_snoc {α : Type} {l : List α} {i : Nat} {x : α} (h : l[i]? = some x) : l.take (i + 1) = l.take i ++ [x] := by
  rw [List.take_add_one, h]; rfl
/-! ### deed by deed, dial by dial -/
theorem cover_snoc (ds : List Deed) (d : Deed) (i : Int) : cover (ds ++ [d]) i = cover ds i + if d.1 ≤ i ∧ i < d.2.1 then d.2.2 else 0 := by
  rw [cover_append]
  show _ + (_ + 0) = _
  omega
theorem behind_empty (m : Int) (ns : List Int) (ds : List Deed) (f s : Int) : behind m ns (ds ++ [(f, f, s)]) = behind m ns ds := by
  refine behind_congr m ns fun i _ => ?_
  rw [cover_snoc, if_neg (by show ¬ (f ≤ (i : Int) ∧ (i : Int) < f); omega), Int.add_zero]
theorem behind_step {m : Int} {ns : List Int} {ds : List Deed} {f s y : Int} {k : Nat} (hf : 0 ≤ f) (hy : (behind m ns (ds ++ [(f, f + k, s)]))[(f + k).toNat]? = some y) :
    (behind m ns (ds ++ [(f, f + k, s)])).set (f + k).toNat ((y + s) % m) = behind m ns (ds ++ [(f, f + (k + 1 : Nat), s)]) := by
  refine List.ext_getElem? fun i => ?_
  rw [behind_get] at hy
  rw [List.getElem?_set, behind_length, behind_get, behind_get]
  by_cases e : (f + k).toNat = i
  · subst e
    rw [if_pos rfl]
    cases q : ns[(f + k).toNat]? with
    | none => rw [q] at hy; cases hy
    | some x =>
      rw [q] at hy
      have hl := (List.getElem?_eq_some_iff.mp q).1
      rw [if_pos hl]
      have hy' : (x + cover (ds ++ [(f, f + k, s)]) ((f + k).toNat : Int)) % m = y := Option.some.inj hy
      rw [← hy', cover_snoc, cover_snoc] 
      show some _ = some _
      rw [if_neg (by show ¬ (f ≤ (((f + k).toNat : Nat) : Int) ∧ (((f + k).toNat : Nat) : Int) < f + k); omega), if_pos (by show (f ≤ (((f + k).toNat : Nat) : Int) ∧ (((f + k).toNat : Nat) : Int) < f + (k + 1 : Nat)); omega), Int.add_zero, Int.emod_add_emod, Int.add_assoc]
  · rw [if_neg e]
    cases q : ns[i]? with
    | none => rfl
    | some x =>
      show some _ = some _
      rw [cover_snoc, cover_snoc]
      have : (f ≤ (i : Int) ∧ (i : Int) < f + k) ↔ (f ≤ (i : Int) ∧ (i : Int) < f + (k + 1 : Nat)) := by omega
      show some ((x + (cover ds i + if (f ≤ (i : Int) ∧ (i : Int) < f + k) then s else 0)) % m) = some ((x + (cover ds i + if (f ≤ (i : Int) ∧ (i : Int) < f + (k + 1 : Nat)) then s else 0)) % m)
      by_cases c : (f ≤ (i : Int) ∧ (i : Int) < f + k)
      · rw [if_pos c, if_pos (this.mp c)]
      · rw [if_neg c, if_neg (fun z => c (this.mpr z))]
end DR
namespace DR
open PySem PySem.Spec PyProof.Rows L2
/-! ### rules of our own -/
section
variable {X : Cx}
/-- xs[i] of a list, by values, for xs[i] op= e -/
def rGetL (K : PySem.W.Frag) : V → V → Hp → VK → Prop := fun o i H Q => ∃ p xs k v, o = .ref p ∧ i = .int k ∧ SqL K H p xs ∧ 0 ≤ k ∧ atI xs k = some v ∧ Q v H
theorem get_list : PGet X (rGetL X.K) := by
  intro pins s σ H x y v u Q I rx ry h
  obtain ⟨p, xs, i, z, rfl, rfl, hq, h0, he, q⟩ := h
  cases rx
  obtain ⟨t, rfl⟩ := ry
  obtain ⟨its, r, pl, hz⟩ := I.list hq
  obtain ⟨j, h1, h2, h3, h4, h5⟩ := atI_get he
  obtain ⟨w, ew, rw'⟩ := r.get h2
  have hn := line63
  have hj : i.toNat = j := by
    rw [seqIndex_of h0 h5] at h1
    exact Option.some.inj h1
  exact wpAny_getItem_list pl.isList h0 (by omega) (by rw [hj]; simpa using ew) ⟨z, H, I, rw', q⟩
/-- a op1 b op2 c op3 d -/
def tChain3 (r r' r'' : R2) (ta tb tc td : TE) : TE := fun σ H Q => ta σ H fun x H1 => tb σ H1 fun y H2 => r x y H2 fun z H3 => ∃ k, z = .bl k ∧
  (if k = true then tc σ H3 fun y' H4 => r' y y' H4 fun z' H5 => ∃ k', z' = .bl k' ∧ (if k' = true then td σ H5 fun w' H6 => r'' y' w' H6 Q else Q (.bl false) H5) else Q (.bl false) H3)
theorem pe_chain3 {op op' op'' : CmpOp} {r r' r'' : R2} {a b c d : Expr} {ta tb tc td : TE} {pos : Pos} (ho : OpR X (compareOp op) r) (ho' : OpR X (compareOp op') r') (ho'' : OpR X (compareOp op'') r'') (ha : PE X a ta) (hb : PE X b tb) (hc : PE X c tc) (hd : PE X d td)
    (hm : lastMarks [op, op', op''] [b, c, d] = false := by with_unfolding_all rfl) : PE X (.Compare a [op, op', op''] [b, c, d] pos) (tChain3 r r' r'' ta tb tc td) := by
  refine ⟨fun pins s σ H Q I h => ?_⟩
  refine Compare_chain (thn (ha.run pins s σ H _ I h) fun v s1 ⟨x, H1, I1, r1, q1⟩ => chain_link (thn (hb.run pins s1 σ H1 _ I1 q1) fun u s2 ⟨y, H2, I2, r2, q2⟩ =>
    thn (ho pins s2 σ H2 x y v u _ I2 r1 r2 q2) fun d' s3 ⟨z, H3, I3, r3, k, e, q3⟩ => ?_)) hm
  subst e
  cases r3
  refine wpAny_truthy_bool ?_
  cases k with
  | false => exact ite_ff ⟨.bl false, H3, I3, rfl, q3⟩
  | true =>
    refine ite_tt (chain_link (thn (hc.run pins s3 σ H3 _ I3 q3) fun w' s4 ⟨y', H4, I4, r4, q4⟩ => thn (ho' pins s4 σ H4 y y' u w' _ I4 r2 r4 q4) fun d2 s5 ⟨z', H5, I5, r5, k', e', q5⟩ => ?_))
    subst e'
    cases r5
    refine wpAny_truthy_bool ?_
    cases k' with
    | false => exact ite_ff ⟨.bl false, H5, I5, rfl, q5⟩
    | true => exact ite_tt (chain_last (thn (hd.run pins s5 σ H5 _ I5 q5) fun w2 s6 ⟨z2, H6, I6, r6, q6⟩ => ho'' pins s6 σ H6 y' z2 w' w2 Q I6 r4 r6 q6))
theorem pt_chain3 {op op' op'' : CmpOp} {r r' r'' : R2} {a b c d : Expr} {ta tb tc td : TE} {pos : Pos} (ho : OpR X (compareOp op) r) (ho' : OpR X (compareOp op') r') (ho'' : OpR X (compareOp op'') r'') (ha : PE X a ta) (hb : PE X b tb) (hc : PE X c tc) (hd : PE X d td)
    (hm : lastMarks [op, op', op''] [b, c, d] = false := by with_unfolding_all rfl) : PT X (.Compare a [op, op', op''] [b, c, d] pos) (tTest (tChain3 r r' r'' ta tb tc td)) := by
  refine ⟨fun pins s σ H Q I h => ?_⟩
  refine isTrue_chain (thn (ha.run pins s σ H _ I h) fun v s1 ⟨x, H1, I1, r1, q1⟩ => test_link (thn (hb.run pins s1 σ H1 _ I1 q1) fun u s2 ⟨y, H2, I2, r2, q2⟩ =>
    thn (ho pins s2 σ H2 x y v u _ I2 r1 r2 q2) fun d' s3 ⟨z, H3, I3, r3, k, e, q3⟩ => ?_)) hm
  subst e
  cases r3
  refine wpAny_truthy_bool ?_
  cases k with
  | false =>
    obtain ⟨k', e', q'⟩ := q3
    cases e'
    exact ite_ff ⟨H3, I3, q'⟩
  | true =>
    refine ite_tt (test_link (thn (hc.run pins s3 σ H3 _ I3 q3) fun w' s4 ⟨y', H4, I4, r4, q4⟩ => thn (ho' pins s4 σ H4 y y' u w' _ I4 r2 r4 q4) fun d2 s5 ⟨z', H5, I5, r5, k', e', q5⟩ => ?_))
    subst e'
    cases r5
    refine wpAny_truthy_bool ?_
    cases k' with
    | false =>
      obtain ⟨k2, e2, q'⟩ := q5
      cases e2
      exact ite_ff ⟨H5, I5, q'⟩
    | true =>
      refine ite_tt (test_last (thn (hd.run pins s5 σ H5 _ I5 q5) fun w2 s6 ⟨z2, H6, I6, r6, q6⟩ => thn (ho'' pins s6 σ H6 y' z2 w' w2 _ I6 r4 r6 q6) fun d3 s7 ⟨z3, H7, I7, r7, k3, e3, q7⟩ => ?_))
      subst e3
      cases r7
      exact wpAny_truthy_bool ⟨H7, I7, q7⟩
/-- * of two ints of not too many bits together -/
def CMulB (i j : Int) : Prop := IntMulOk i j
theorem op_mulB : OpR X (binaryOp .Mult) (rI CMulB fun i j => .int (i * j)) := opI fun _ _ _ _ _ _ _ hc q => mul_int q hc
end
/-! ### heaps -/
theorem same_new {H : Hp} {p : Addr} {o : HO} (h : H p = none) : Same H (upd H p o) := fun b x e => by
  rw [upd_ne (ne_of_none e h)]
  exact e
/-- an object that H does not know may change -/
theorem smut {H H' : Hp} {p : Addr} {o : HO} (e : Same H H') (h : H p = none) : Same H (upd H' p o) := fun a u ha => by
  rw [upd_ne (ne_of_none ha h)]
  exact e a u ha
theorem stup {K : PySem.W.Frag} {H H' : Hp} {a : Addr} {xs : List V} (e : Same H H') (h : SqT K H a xs) : SqT K H' a xs := by
  rcases h with (h | ⟨o, h⟩) | h
  · exact .inl (.inl (e _ _ h))
  · exact .inl (.inr ⟨o, e _ _ h⟩)
  · exact .inr h
theorem line_of {n : Nat} (h : n ≤ 100000) : n ≤ sizeLine := Nat.le_trans h (by decide)
theorem line_lt {n : Nat} (h : n < 100000) : n < sizeLine := Nat.lt_of_lt_of_le h (by decide)
theorem map_at {ns : List Int} {i : Nat} {x : V} (h : (ns.map V.int)[i]? = some x) : ∃ z, ns[i]? = some z ∧ x = .int z := by
  rw [List.getElem?_map] at h
  cases e : ns[i]? with
  | none => rw [e] at h; cases h
  | some z =>
    rw [e] at h
    exact ⟨z, rfl, (Option.some.inj h).symm⟩
theorem ref_at {as : List Addr} {i : Nat} {x : V} (h : (as.map V.ref)[i]? = some x) : ∃ z, as[i]? = some z ∧ x = .ref z := by
  rw [List.getElem?_map] at h
  cases e : as[i]? with
  | none => rw [e] at h; cases h
  | some z =>
    rw [e] at h
    exact ⟨z, rfl, (Option.some.inj h).symm⟩
theorem at_map {α : Type} {f : α → V} {xs : List α} {i : Nat} {x : α} (h : xs[i]? = some x) : (xs.map f)[i]? = some (f x) := by
  rw [List.getElem?_map, h]; rfl
theorem at_lt {α : Type} {xs : List α} {i : Nat} {x : α} (h : xs[i]? = some x) : i < xs.length := (List.getElem?_eq_some_iff.mp h).1
theorem cut_nat (xs : List V) (k : Nat) : cutV xs none (some (k : Int)) = xs.take k := by
  unfold cutV
  rw [HT.sIx_none, HT.sIx_nat, List.drop_zero, Nat.sub_zero]
  by_cases h : k ≤ xs.length
  · rw [Nat.min_eq_left h]
  · rw [Nat.min_eq_right (by omega), List.take_length, List.take_of_length_le (by omega)]
theorem cut_from (xs : List V) (k : Nat) : cutV xs (some (k : Int)) none = xs.drop k := by
  unfold cutV
  rw [HT.sIx_none, HT.sIx_nat]
  by_cases h : k ≤ xs.length
  · rw [Nat.min_eq_left h, List.take_of_length_le (by rw [List.length_drop]; omega)]
  · rw [Nat.min_eq_right (by omega), Nat.sub_self, List.take_zero, List.drop_of_length_le (by omega)]
theorem cut_last (xs : List V) (v : V) : cutV (xs ++ [v]) none (some (-1)) = xs := by
  unfold cutV
  rw [HT.sIx_none, List.drop_zero, Nat.sub_zero]
  have e : HT.sIx (xs ++ [v]).length (xs ++ [v]).length (some (-1)) = xs.length := by
    show (if (-1 : Int) < 0 then ((-1 : Int) + ((xs ++ [v]).length : Int)).toNat else min (-1 : Int).toNat (xs ++ [v]).length) = xs.length
    rw [if_pos (by decide), List.length_append, List.length_singleton]
    omega
  rw [e, List.take_left]
/-! ### deeds in the heap -/
def tri (d : Deed) : List V := [.int d.1, .int d.2.1, .int d.2.2]
structure DsAt (H : Hp) (as : List Addr) (ds : List Deed) : Prop where
  len : as.length = ds.length
  at_ : ∀ (j : Nat) (a : Addr), as[j]? = some a → ∃ d, ds[j]? = some d ∧ H a = some (.tup (tri d))
section
variable {H H' : Hp} {as bs : List Addr} {ds es : List Deed} {a : Addr} {d : Deed}
theorem DsAt.same (h : DsAt H as ds) (s : Same H H') : DsAt H' as ds := ⟨h.len, fun j a e => let ⟨d, h1, h2⟩ := h.at_ j a e; ⟨d, h1, s _ _ h2⟩⟩
theorem DsAt.nil : DsAt H [] [] := ⟨rfl, fun j a e => by simp at e⟩
theorem DsAt.append (h : DsAt H as ds) (k : DsAt H bs es) : DsAt H (as ++ bs) (ds ++ es) := by
  refine ⟨by rw [List.length_append, List.length_append, h.len, k.len], fun j a e => ?_⟩
  by_cases hj : j < as.length
  · rw [List.getElem?_append_left hj] at e
    obtain ⟨d, h1, h2⟩ := h.at_ j a e
    exact ⟨d, by rw [List.getElem?_append_left (by rw [← h.len]; exact hj)]; exact h1, h2⟩
  · rw [List.getElem?_append_right (by omega)] at e
    obtain ⟨d, h1, h2⟩ := k.at_ _ a e
    exact ⟨d, by rw [List.getElem?_append_right (by rw [← h.len]; omega), ← h.len]; exact h1, h2⟩
theorem DsAt.one (e : H a = some (.tup (tri d))) : DsAt H [a] [d] := ⟨rfl, fun j b h => by
  match j, h with
  | 0, h =>
    have : a = b := Option.some.inj h
    subst this
    exact ⟨d, rfl, e⟩
  | j + 1, h => simp at h⟩
theorem DsAt.snoc (h : DsAt H as ds) (e : H a = some (.tup (tri d))) : DsAt H (as ++ [a]) (ds ++ [d]) := h.append (DsAt.one e)
theorem DsAt.upd {c : Addr} {xs : List V} {o : HO} (h : DsAt H as ds) (hc : H c = some (.lst xs)) : DsAt (upd H c o) as ds := ⟨h.len, fun j b e => let ⟨d, h1, h2⟩ := h.at_ j b e; ⟨d, h1, by rw [upd_ne (ne_of h2 hc (by intro q; cases q))]; exact h2⟩⟩
theorem DsAt.take (h : DsAt H as ds) (n : Nat) : DsAt H (as.take n) (ds.take n) := by
  refine ⟨by rw [List.length_take, List.length_take, h.len], fun j a e => ?_⟩
  rw [List.getElem?_take] at e
  by_cases hj : j < n
  · rw [if_pos hj] at e
    obtain ⟨d, h1, h2⟩ := h.at_ j a e
    exact ⟨d, by rw [List.getElem?_take, if_pos hj]; exact h1, h2⟩
  · rw [if_neg hj] at e; cases e
theorem DsAt.drop (h : DsAt H as ds) (n : Nat) : DsAt H (as.drop n) (ds.drop n) := by
  refine ⟨by rw [List.length_drop, List.length_drop, h.len], fun j a e => ?_⟩
  rw [List.getElem?_drop] at e
  obtain ⟨d, h1, h2⟩ := h.at_ _ a e
  exact ⟨d, by rw [List.getElem?_drop]; exact h1, h2⟩
end
theorem DeedsOk.take {n : Int} {ds : List Deed} (h : DeedsOk n ds) (k : Nat) : DeedsOk n (ds.take k) := fun d hd => h d (List.mem_of_mem_take hd)
theorem DeedsOk.drop {n : Int} {ds : List Deed} (h : DeedsOk n ds) (k : Nat) : DeedsOk n (ds.drop k) := fun d hd => h d (List.mem_of_mem_drop hd)
/-! ### data, for == and != -/
def dI (ns : List Int) : PyData := .list (ns.map .int)
def dD (d : Deed) : PyData := .tuple [.int d.1, .int d.2.1, .int d.2.2]
def dDs (ds : List Deed) : PyData := .list (ds.map dD)
theorem dp_ints {K : PySem.W.Frag} {H : Hp} : ∀ ns : List Int, DpAll K H (ns.map V.int) (ns.map PyData.int)
  | [] => .nil
  | x :: r => .cons (.int x) (dp_ints r)
theorem dp_lst {K : PySem.W.Frag} {H : Hp} {a : Addr} {ns : List Int} (h : SqL K H a (ns.map V.int)) : Dp K H (.ref a) (dI ns) := .lst h (dp_ints ns)
theorem dp_dsAll {K : PySem.W.Frag} {H : Hp} : ∀ {as : List Addr} {ds : List Deed}, DsAt H as ds → DpAll K H (as.map V.ref) (ds.map dD)
  | [], [], _ => .nil
  | [], _ :: _, h => nomatch h.len
  | _ :: _, [], h => nomatch h.len
  | a :: r, d :: t, h => by
    obtain ⟨d', e1, e2⟩ := h.at_ 0 a rfl
    have e : d = d' := Option.some.inj e1
    subst e
    exact .cons (.tup (.inl (.inl e2)) (.cons (.int _) (.cons (.int _) (.cons (.int _) .nil)))) (dp_dsAll ⟨Nat.succ.inj h.len, fun j b q => h.at_ (j + 1) b q⟩)
theorem dp_ds {K : PySem.W.Frag} {H : Hp} {p : Addr} {as : List Addr} {ds : List Deed} (h : SqL K H p (as.map V.ref)) (hd : DsAt H as ds) : Dp K H (.ref p) (dDs ds) := .lst h (dp_dsAll hd)
theorem lay_ints : ∀ ns : List Int, PyData.canLayAll0 (ns.map PyData.int) = true
  | [] => by simp only [List.map_nil, PyData.canLayAll0]
  | x :: r => by simp only [List.map_cons, PyData.canLayAll0, PyData.canLay0, lay_ints r, Bool.and_self]
theorem dep_ints : ∀ ns : List Int, PyData.depthAll (ns.map PyData.int) = 0
  | [] => by simp only [List.map_nil, PyData.depthAll]
  | x :: r => by simp only [List.map_cons, PyData.depthAll, PyData.depth, dep_ints r, Nat.max_self]
theorem lay_dI (ns : List Int) : (dI ns).canLay0 = true := by unfold dI; simp only [PyData.canLay0]; exact lay_ints ns
theorem dep_dI (ns : List Int) : (dI ns).depth = 1 := by unfold dI; simp only [PyData.depth, dep_ints]
theorem sh_dI (ns : List Int) : SeqAt.shaped (dI ns) = true := by
  unfold SeqAt.shaped
  rw [lay_dI, dep_dI]; rfl
theorem lay_dDs (ds : List Deed) : (dDs ds).canLay0 = true := by
  unfold dDs
  simp only [PyData.canLay0]
  induction ds with
  | nil => simp only [List.map_nil, PyData.canLayAll0]
  | cons d r ih => simp only [List.map_cons, PyData.canLayAll0, dD, PyData.canLay0, ih, Bool.and_self]
theorem dep_dDs (ds : List Deed) : (dDs ds).depth ≤ 2 := by
  unfold dDs
  simp only [PyData.depth]
  refine Nat.succ_le_succ ?_
  induction ds with
  | nil => simp only [List.map_nil, PyData.depthAll]; omega
  | cons d r ih =>
    simp only [List.map_cons, PyData.depthAll]
    refine Nat.max_le.mpr ⟨?_, ih⟩
    simp only [dD, PyData.depth, PyData.depthAll, Nat.max_self]
    omega
theorem sh_dDs (ds : List Deed) : SeqAt.shaped (dDs ds) = true := by
  unfold SeqAt.shaped
  rw [lay_dDs, decide_eq_true (Nat.le_trans (dep_dDs ds) (by decide))]; rfl
theorem eqvAll_ints : ∀ ns ms : List Int, PyData.eqvAll (ns.map .int) (ms.map .int) = decide (ns = ms)
  | [], [] => by simp only [List.map_nil, PyData.eqvAll, decide_true]
  | [], _ :: _ => by simp [PyData.eqvAll]
  | _ :: _, [] => by simp [PyData.eqvAll]
  | x :: r, y :: t => by
    simp only [List.map_cons, PyData.eqvAll, PyData.eqv]
    rw [eqvAll_ints r t, Bool.beq_eq_decide_eq, ← Bool.decide_and]
    exact decide_eq_decide.mpr (by rw [List.cons.injEq])
theorem eqv_dI (ns ms : List Int) : PyData.eqv (dI ns) (dI ms) = decide (ns = ms) := by
  unfold dI
  simp only [PyData.eqv]
  exact eqvAll_ints ns ms
/-! ### kinds -/
/-- whether a value is a whole number, as is_number says -/
inductive NumB (K : PySem.W.Frag) (H : Hp) : V → Bool → Prop
  | int (i : Int) : NumB K H (.int i) true
  | bl (b : Bool) : NumB K H (.bl b) false
  | non : NumB K H .non false
  | str (x : Str) : NumB K H (.str x) false
  | lst {a : Addr} {xs : List V} (h : SqL K H a xs) : NumB K H (.ref a) false
  | tup {a : Addr} {xs : List V} (h : SqT K H a xs) : NumB K H (.ref a) false
theorem ty_lst {K : PySem.W.Frag} {H : Hp} {a : Addr} {xs : List V} (h : SqL K H a xs) : TyX K H (.ref a) (.type "list") := by
  rcases h with (h | ⟨o, h⟩) | ⟨o, its, n, hk, hc, _⟩
  · exact .base (.lst h)
  · exact .base (.frz h)
  · exact .kList hk hc
theorem ty_tup {K : PySem.W.Frag} {H : Hp} {a : Addr} {xs : List V} (h : SqT K H a xs) : TyX K H (.ref a) (.type "tuple") := by
  rcases h with (h | ⟨o, h⟩) | ⟨o, its, n, hk, hc, _⟩
  · exact .base (.tup h)
  · exact .fTuple h
  · exact .kTuple hk hc
/-- the module's names that are still the built-in ones -/
structure Blt (mg : Str → Option Value) : Prop where
  isi : mg "isinstance" = none
  int : mg "int" = none
  bool : mg "bool" = none
  list : mg "list" = none
  tuple : mg "tuple" = none
  len : mg "len" = none
  enumerate : mg "enumerate" = none
  sum : mg "sum" = none
  range : mg "range" = none
  all : mg "all" = none
/-! ### defs and calls in short -/
/-- the def x of the text stands where its name says -/
def Def (K : PySem.W.Frag) (mg : Str → Option Value) (x : Str) (st : Stmt) (ps : List Str) : Prop := ∃ f fd, Fun K x x st f fd ∧ mg x = some (.ref f) ∧ Binds K fd ps []
/-- x keeps the promise sp, and nothing is raised -/
def Callee (P : Program) (w : World) (K : PySem.W.Frag) (mg : Str → Option Value) (base : Heap) (k : Nat) (x : Str) (ps : List Str) (sp : Sp) : Prop :=
  ∃ f fd, mg x = some (.ref f) ∧ PySem.W.keepIn K (.ref f) = true ∧ Binds K fd ps [] ∧ (∃ oc od osl, K.lookup f = some ⟨oc, od, .func fd, osl⟩) ∧ FnOk P w K mg base CX0 k f fd ps sp
section
variable {P : Program} {w : World} {K : PySem.W.Frag} {mg : Str → Option Value} {base : Heap}
theorem Def.ok {x : Str} {st : Stmt} {N ps : List Str} {k : Nat} {sp : Sp} (D : Def K mg x st ps) (S : FnScope N ps (defScope st)) (len : ∀ vs H Q E, sp vs H Q E → vs.length = ps.length)
    (hbody : ∀ (f : Addr) (cdv : Value) (A : Around) (outer : List Env) (s : Shared) (H : Hp) (vs : List V) (Q : VK) (E : XK), Room k (A.deeper (envOfC x (defScope st) s.heap.objs.size f cdv)) → sp vs H Q E →
      ∃ t, PSs (cxOf CX0 P w K mg base N x (defScope st) f cdv A outer s H E).nox (defBody st) t ∧ t { nx := fun _ H' => Q .non H', rt := Q } (start N vs) H) : Callee P w K mg base (k + 1) x ps sp := by
  obtain ⟨f, fd, F, g, b⟩ := D
  have lk : ∃ oc od osl, K.lookup f = some ⟨oc, od, .func fd, osl⟩ := by
    obtain ⟨oc, od, kV, doc, pm, an, cdv, ct, osl, rfl, lk, _⟩ := F.ex
    exact ⟨oc, od, osl, lk⟩
  exact ⟨f, fd, g, F.kp, b, lk, F.ok S len fun cdv A outer s H vs Q E hr h => hbody f cdv A outer s H vs Q E hr h⟩
theorem Callee.imp {x : Str} {ps : List Str} {k : Nat} {sp sp' : Sp} (C : Callee P w K mg base k x ps sp) (h : ∀ vs H Q E, sp' vs H Q E → sp vs H Q E) : Callee P w K mg base k x ps sp' := by
  obtain ⟨f, fd, h1, h2, h3, lk, h4⟩ := C
  exact ⟨f, fd, h1, h2, h3, lk, h4.imp h⟩
end
theorem pe_c {X : Cx} {k : Nat} {x : Str} {ps : List Str} {sp : Sp} {p pos : Pos} {e : Expr} {es : List Expr} {t : TA} (C : Callee X.prog X.w X.K X.mg X.base k x ps sp) (hr : Room k X.A) (hg : Gl X x) (ha : PA X (e :: es) t)
    (hdb : (x == ("__debug__" : Str)) = false := by decide) (he : starEach (e :: es) X.env = (false, eval e X.env) :: starEach es X.env := by rfl) (hpl : (backTo pos (starEach es X.env)).any (·.1) = false := by rfl) :
    PE X (.Call (.Name x p) (e :: es) [] pos) (tCall sp [] E0 t) := by
  obtain ⟨f, fd, h1, h2, h3, _, h4⟩ := C
  exact pe_call h4 hr hg h1 h2 h3 .nil pass0 ha hdb he hpl
/-- from the facts that the top leaves -/
theorem def_mk {K : PySem.W.Frag} {h : Heap} {mg : Str → Option Value} {x : Str} {st : Stmt} {ps : List Str} {f : Addr} {oc : Value} {od an : Option Addr} {osl : Array (Option Value)} {kV doc pm cdv ct : Value} (X : K.In h) (G : h.Ns mainGlobals mg)
    (a : PySem.W.nsIn K mainGlobals x = some (some (.ref f))) (l : K.lookup f = some ⟨oc, od, .func (PySem.W.fnOf x x (defArgs st) (defBody st) (defScope st) .none kV doc pm an cdv ct), osl⟩)
    (c : PySem.W.codeIn K cdv x = true) (k : PySem.W.keepIn K (.ref f) = true)
    (hb : ∀ (kV doc pm : Value) (an : Option Addr) (cdv ct : Value) (us : List Value), us.length = ps.length → bindArgs (PySem.W.fnOf x x (defArgs st) (defBody st) (defScope st) .none kV doc pm an cdv ct) ⟨us, []⟩ = pure (ps.zip us)) : Def K mg x st ps :=
  ⟨f, _, fun_mk l c k, PySem.W.mg_of X G a, (fun_mk l c k).binds hb⟩
/-- the promise of a def that stands at f -/
theorem Callee.at {P : Program} {w : World} {K : PySem.W.Frag} {mg : Str → Option Value} {base : Heap} {k : Nat} {x : Str} {ps : List Str} {sp : Sp} {f : Addr} {fd : FuncData} {oc : Value} {od : Option Addr} {osl : Array (Option Value)}
    (C : Callee P w K mg base k x ps sp) (g : mg x = some (.ref f)) (l : K.lookup f = some ⟨oc, od, .func fd, osl⟩) : FnOk P w K mg base CX0 k f fd ps sp := by
  obtain ⟨f', fd', h1, _, _, ⟨oc', od', osl', lk⟩, h4⟩ := C
  rw [g] at h1
  cases h1
  rw [l] at lk
  cases lk
  exact h4
theorem isi_ty {K : PySem.W.Frag} {H : Hp} {Q : VK} {x : V} {T C : String} {r : Bool} (ty : TyX K H x (.type T)) (h : kitB T C = some r) (q : Q (.bl r) H) : rIsi K [x, .ty C] H Q := ⟨x, .ty C, _, _, r, rfl, .ty C, ty, kit_ty h, q⟩
end DR
namespace DR
open PySem PySem.Spec PyProof.Rows L2
/-! ### the text by places -/
def topS (i : Nat) : Stmt := PySem.Challenge.pw_dialrow_k01_whole_turned.main.body.getD i (.Pass ⟨0, 0, 0, 0⟩)
abbrev sNum : Stmt := topS 6
abbrev sSize : Stmt := topS 7
abbrev sRow : Stmt := topS 8
abbrev sDeed : Stmt := topS 9
abbrev sDeeds : Stmt := topS 10
abbrev sTurned : Stmt := topS 11
abbrev lSize : Stmt := topS 13
abbrev lRow : Stmt := topS 14
abbrev lNumbers : Stmt := topS 15
abbrev lTurned : Stmt := topS 16
abbrev lDeeds : Stmt := topS 19
abbrev sLaw : Stmt := topS 20
end DR
namespace DR
open PySem PySem.Spec PyProof.Rows L2
/-! ### promises of the program's defs -/
def spNum (K : PySem.W.Frag) : Sp := fun vs H Q _ => ∃ x b, vs = [x] ∧ NumB K H x b ∧ Q (.bl b) H
def spSize : Sp := fun vs H Q _ => ∃ m : Int, vs = [.int m] ∧ 2 ≤ m ∧ Q .non H
def spRow (K : PySem.W.Frag) : Sp := fun vs H Q _ => ∃ (m : Int) (a : Addr) (ns : List Int), vs = [.int m, .ref a] ∧ SqL K H a (ns.map V.int) ∧ RowOk m ns ∧ Q .non H
def deedB (n : Int) (d : Deed) : Bool := decide (0 ≤ d.1) && (decide (d.1 < d.2.1) && (decide (d.2.1 ≤ n) && decide (d.2.2 ≠ 0)))
theorem deedB_ok {n : Int} {d : Deed} (h : DeedOk n d) : deedB n d = true := by
  obtain ⟨h1, h2, h3, h4⟩ := h
  unfold deedB
  rw [decide_eq_true h1, decide_eq_true h2, decide_eq_true h3, decide_eq_true h4]; rfl
def spDeed (K : PySem.W.Frag) : Sp := fun vs H Q _ => ∃ (n : Int) (a : Addr) (d : Deed), vs = [.int n, .ref a] ∧ H a = some (.tup (tri d)) ∧ Q (.bl (deedB n d)) H
def spDeeds (K : PySem.W.Frag) : Sp := fun vs H Q _ => ∃ (n : Int) (p : Addr) (as : List Addr) (ds : List Deed), vs = [.int n, .ref p] ∧ SqL K H p (as.map V.ref) ∧ DsAt H as ds ∧ DeedsOk n ds ∧ Q .non H
def spTurned (K : PySem.W.Frag) : Sp := fun vs H Q _ => ∃ (m : Int) (a p : Addr) (ns : List Int) (as : List Addr) (ds : List Deed), vs = [.int m, .ref a, .ref p] ∧ SqL K H a (ns.map V.int) ∧ SqL K H p (as.map V.ref) ∧ DsAt H as ds ∧
  2 ≤ m ∧ RowOk m ns ∧ DeedsOk ns.length ds ∧ ns.length ≤ 1000 ∧ ∀ H' q, Same H H' → H q = none → H' q = some (.lst ((behind m ns ds).map V.int)) → Q (.ref q) H'
section
variable {P : Program} {w : World} {K : PySem.W.Frag} {mg : Str → Option Value} {base : Heap}
theorem scNum : FnScope ["thing"] ["thing"] (defScope sNum) := ⟨rfl, rfl, rfl, by decide +kernel, rfl, by decide +kernel, by decide +kernel⟩
theorem ok_num (D : Def K mg "is_number" sNum ["thing"]) (B : Blt mg) : Callee P w K mg base 1 "is_number" ["thing"] (spNum K) := by
  refine D.ok scNum (fun vs H Q E h => ?_) (fun f cdv A outer s H vs Q E hr h => ?_)
  · obtain ⟨x, b, rfl, _⟩ := h
    rfl
  · obtain ⟨x, b, rfl, hn, q⟩ := h
    refine ⟨_, pss_one (ps_ret (pe_and (pe_callB call_isi (by rfl) B.isi boot_isinstance (pa_cons (pv 0) (pa_cons (pe_bltn (v := .ty "int") (by rfl) B.int PyProof.Rows.boot_int rfl) pa_nil)))
      (pe_one (pe_not (pe_callB call_isi (by rfl) B.isi boot_isinstance (pa_cons (pv 0) (pa_cons (pe_bltn (v := .ty "bool") (by rfl) B.bool PyProof.Rows.boot_bool rfl) pa_nil))))))), ?_⟩
    cases hn with
    | int i => exact ⟨_, rfl, ⟨_, _, _, _, true, rfl, .ty _, (.base (.int i)), kit_ty (by decide +kernel), ⟨true, rfl, iteT ⟨_, rfl, ⟨_, _, _, _, false, rfl, .ty _, (.base (.int i)), kit_ty (by decide +kernel), ⟨false, rfl, q⟩⟩⟩⟩⟩⟩
    | bl b => exact ⟨_, rfl, ⟨_, _, _, _, true, rfl, .ty _, (.base (.bl b)), kit_ty (by decide +kernel), ⟨true, rfl, iteT ⟨_, rfl, ⟨_, _, _, _, true, rfl, .ty _, (.base (.bl b)), kit_ty (by decide +kernel), ⟨true, rfl, q⟩⟩⟩⟩⟩⟩
    | non => exact ⟨_, rfl, ⟨_, _, _, _, false, rfl, .ty _, (.base .non), kit_ty (by decide +kernel), ⟨false, rfl, iteF q⟩⟩⟩
    | str z => exact ⟨_, rfl, ⟨_, _, _, _, false, rfl, .ty _, (.base (.str z)), kit_ty (by decide +kernel), ⟨false, rfl, iteF q⟩⟩⟩
    | lst h => exact ⟨_, rfl, ⟨_, _, _, _, false, rfl, .ty _, (ty_lst h), kit_ty (by decide +kernel), ⟨false, rfl, iteF q⟩⟩⟩
    | tup h => exact ⟨_, rfl, ⟨_, _, _, _, false, rfl, .ty _, (ty_tup h), kit_ty (by decide +kernel), ⟨false, rfl, iteF q⟩⟩⟩
theorem scSize : FnScope ["size"] ["size"] (defScope sSize) := ⟨rfl, rfl, rfl, by decide +kernel, rfl, by decide +kernel, by decide +kernel⟩
theorem ok_size (D : Def K mg "check_size" sSize ["size"]) (GN : Callee P w K mg base 1 "is_number" ["thing"] (spNum K)) : Callee P w K mg base 2 "check_size" ["size"] spSize := by
  refine D.ok scSize (fun vs H Q E h => ?_) (fun f cdv A outer s H vs Q E hr h => ?_)
  · obtain ⟨m, rfl, _⟩ := h
    rfl
  · obtain ⟨m, rfl, hm, q⟩ := h
    refine ⟨_, pss_one (ps_if (PW.pt (pw_or (pt_not (pt_val (pe_c GN hr (by rfl) (pa_cons (pv 0) pa_nil)))) (pw_or1 (pt_cmpR op_lt (pv 0) pe_int (nomark _))))) (pss_one ps_never) pss_nil), ?_⟩
    refine ⟨_, rfl, _, _, rfl, .int m, true, rfl, iteF ⟨_, rfl, m, 2, rfl, rfl, _, rfl, ?_⟩⟩
    rw [decide_eq_false (by omega)]
    exact iteF q
theorem scRow : FnScope ["size", "row", "figure"] ["size", "row"] (defScope sRow) := ⟨rfl, rfl, rfl, by decide +kernel, rfl, by decide +kernel, by decide +kernel⟩
theorem ok_row (D : Def K mg "check_row" sRow ["size", "row"]) (B : Blt mg) (GN : Callee P w K mg base 1 "is_number" ["thing"] (spNum K)) : Callee P w K mg base 2 "check_row" ["size", "row"] (spRow K) := by
  refine D.ok scRow (fun vs H Q E h => ?_) (fun f cdv A outer s H vs Q E hr h => ?_)
  · obtain ⟨m, a, ns, rfl, _⟩ := h
    rfl
  · obtain ⟨m, a, ns, rfl, hS, hR, q⟩ := h
    refine ⟨_, pss_cons (ps_if (pt_not (pt_val (pe_callB call_isi (by rfl) B.isi boot_isinstance (pa_cons (pv 1) (pa_cons (pe_bltn (v := .ty "list") (by rfl) B.list PyProof.Rows.boot_list rfl) pa_nil))))) (pss_one ps_never) pss_nil)
      (pss_one (ps_for PassesOwn.never rfl (pi_list (pv 1)) (pg_name (i := 2) scRow.nd rfl (.inl rfl))
        (pss_one (ps_if (PW.pt (pw_or (pt_not (pt_val (pe_c GN hr (by rfl) (pa_cons (pv 2) pa_nil)))) (pw_or (pt_cmpR op_lt (pv 2) pe_int (nomark _)) (pw_or1 (pt_cmpR op_ge (pv 2) (pv 0) (nomark _)))))) (pss_one ps_never) pss_nil)))), ?_⟩
    refine ⟨_, rfl, ⟨_, _, _, _, true, rfl, .ty _, (ty_lst hS), kit_ty (by decide +kernel), ⟨true, rfl, iteF ?_⟩⟩⟩
    refine ⟨_, rfl, a, rfl, ⟨_, hS⟩, for_list (K := K) (a := a) (xs := ns.map V.int) (fun i σ H2 => (∃ v, σ = [some (.int m), some (.ref a), v]) ∧ H2 = H) ⟨⟨none, rfl⟩, rfl⟩ (fun i σ H2 _ h => by rw [h.2]; exact hS) ?_ ?_⟩
    · rintro i y σ H2 hi ⟨⟨v, rfl⟩, rfl⟩
      obtain ⟨z, hz, rfl⟩ := map_at hi
      obtain ⟨h1, h2⟩ := hR z (List.mem_of_getElem? hz)
      refine ⟨_, rfl, _, _, rfl, .int z, true, rfl, iteF ⟨_, rfl, z, 0, rfl, rfl, _, rfl, ?_⟩⟩
      rw [decide_eq_false (by omega)]
      refine iteF ⟨_, rfl, _, rfl, z, m, rfl, rfl, _, rfl, ?_⟩
      rw [decide_eq_false (by omega)]
      exact iteF ⟨⟨_, rfl⟩, rfl⟩
    · rintro σ H2 ⟨⟨v, rfl⟩, rfl⟩
      exact q
theorem scDeed : FnScope ["dials", "thing", "first", "end", "steps"] ["dials", "thing"] (defScope sDeed) := ⟨rfl, rfl, rfl, by decide +kernel, rfl, by decide +kernel, by decide +kernel⟩
theorem ok_deed (D : Def K mg "is_deed" sDeed ["dials", "thing"]) (B : Blt mg) (GN : Callee P w K mg base 1 "is_number" ["thing"] (spNum K)) : Callee P w K mg base 2 "is_deed" ["dials", "thing"] (spDeed K) := by
  refine D.ok scDeed (fun vs H Q E h => ?_) (fun f cdv A outer s H vs Q E hr h => ?_)
  · obtain ⟨n, a, d, rfl, _⟩ := h
    rfl
  · obtain ⟨n, a, ⟨x, y, z⟩, rfl, hA, q⟩ := h
    have hT : SqT K H a [.int x, .int y, .int z] := .inl (.inl hA)
    refine ⟨_, pss_cons (ps_if (PW.pt (pw_or (pt_not (pt_val (pe_callB call_isi (by rfl) B.isi boot_isinstance (pa_cons (pv 1) (pa_cons (pe_bltn (v := .ty "tuple") (by rfl) B.tuple PyProof.Rows.boot_tuple rfl) pa_nil)))))
        (pw_or1 (pt_cmpR op_ne (pe_callB call_len_seq (by rfl) B.len PySem.boot_len (pa_cons (pv 1) pa_nil)) pe_int (nomark _))))) (pss_one (ps_ret pe_bl)) pss_nil)
      (pss_cons (ps_asg (pv 1) (pg_tup (by rfl) (pgs_cons (pg_name (i := 2) scDeed.nd rfl (.inl rfl)) (pgs_cons (pg_name (i := 3) scDeed.nd rfl (.inl rfl)) (pgs_cons (pg_name (i := 4) scDeed.nd rfl (.inl rfl)) pgs_nil)))))
      (pss_cons (ps_if (PW.pt (pw_or (pt_not (pt_val (pe_c GN hr (by rfl) (pa_cons (pv 2) pa_nil)))) (pw_or (pt_not (pt_val (pe_c GN hr (by rfl) (pa_cons (pv 3) pa_nil)))) (pw_or1 (pt_not (pt_val (pe_c GN hr (by rfl) (pa_cons (pv 4) pa_nil)))))))) (pss_one (ps_ret pe_bl)) pss_nil)
      (pss_one (ps_ret (pe_and (pe_chain3 op_le op_lt op_le pe_int (pv 2) (pv 3) (pv 0)) (pe_one (pe_cmpR op_ne (pv 4) pe_int (nomark _)))))))), ?_⟩
    refine ⟨_, rfl, ⟨_, _, _, _, true, rfl, .ty _, (ty_tup hT), kit_ty (by decide +kernel), ⟨true, rfl, iteF ⟨_, rfl, a, _, rfl, .inr hT, rfl, _, rfl, ?_⟩⟩⟩⟩
    refine iteF ?_
    refine ⟨_, rfl, a, _, rfl, hT, rfl, _, _, rfl, _, _, rfl, _, _, rfl, rfl, ?_⟩
    refine ⟨_, rfl, _, _, rfl, .int x, true, rfl, iteF ⟨_, rfl, _, _, rfl, .int y, true, rfl, iteF ⟨_, rfl, _, _, rfl, .int z, true, rfl, iteF ?_⟩⟩⟩
    refine ⟨_, rfl, 0, x, rfl, rfl, _, rfl, ?_⟩
    have fin : ∀ b : Bool, b = deedB n (x, y, z) → Q (.bl b) H := fun b e => by rw [e]; exact q
    by_cases h1 : 0 ≤ x
    · rw [decide_eq_true h1]
      refine iteT ⟨_, rfl, x, y, rfl, rfl, _, rfl, ?_⟩
      by_cases h2 : x < y
      · rw [decide_eq_true h2]
        refine iteT ⟨_, rfl, y, n, rfl, rfl, _, rfl, ?_⟩
        by_cases h3 : y ≤ n
        · rw [decide_eq_true h3]
          refine iteT ⟨_, rfl, rfl, fin _ ?_⟩
          unfold deedB
          rw [decide_eq_true (show (0 : Int) ≤ (x, y, z).1 from h1), decide_eq_true (show (x, y, z).1 < (x, y, z).2.1 from h2), decide_eq_true (show (x, y, z).2.1 ≤ n from h3)]
          show (!decide (V.int z = V.int 0)) = decide (z ≠ 0)
          by_cases h4 : z = 0
          · subst h4; rfl
          · rw [decide_eq_false (fun e => h4 (V.int.inj e)), decide_eq_true h4]; rfl
        · rw [decide_eq_false h3]
          refine iteF (fin _ ?_)
          unfold deedB
          rw [decide_eq_false (show ¬ (x, y, z).2.1 ≤ n from h3)]
          simp
      · rw [decide_eq_false h2]
        refine iteF ⟨false, rfl, iteF (fin _ ?_)⟩
        unfold deedB
        rw [decide_eq_false (show ¬ (x, y, z).1 < (x, y, z).2.1 from h2)]
        simp
    · rw [decide_eq_false h1]
      refine iteF ⟨false, rfl, iteF (fin _ ?_)⟩
      unfold deedB
      rw [decide_eq_false (show ¬ (0 : Int) ≤ (x, y, z).1 from h1)]
      simp
theorem scDeeds : FnScope ["dials", "deeds", "deed"] ["dials", "deeds"] (defScope sDeeds) := ⟨rfl, rfl, rfl, by decide +kernel, rfl, by decide +kernel, by decide +kernel⟩
theorem ok_deeds (D : Def K mg "check_deeds" sDeeds ["dials", "deeds"]) (B : Blt mg) (GD : Callee P w K mg base 2 "is_deed" ["dials", "thing"] (spDeed K)) : Callee P w K mg base 3 "check_deeds" ["dials", "deeds"] (spDeeds K) := by
  refine D.ok scDeeds (fun vs H Q E h => ?_) (fun f cdv A outer s H vs Q E hr h => ?_)
  · obtain ⟨n, p, as, ds, rfl, _⟩ := h
    rfl
  · obtain ⟨n, p, as, ds, rfl, hS, hD, hok, q⟩ := h
    refine ⟨_, pss_cons (ps_if (pt_not (pt_val (pe_callB call_isi (by rfl) B.isi boot_isinstance (pa_cons (pv 1) (pa_cons (pe_bltn (v := .ty "list") (by rfl) B.list PyProof.Rows.boot_list rfl) pa_nil))))) (pss_one ps_never) pss_nil)
      (pss_one (ps_for PassesOwn.never rfl (pi_list (pv 1)) (pg_name (i := 2) scDeeds.nd rfl (.inl rfl))
        (pss_one (ps_if (pt_not (pt_val (pe_c GD hr (by rfl) (pa_cons (pv 0) (pa_cons (pv 2) pa_nil))))) (pss_one ps_never) pss_nil)))), ?_⟩
    refine ⟨_, rfl, ⟨_, _, _, _, true, rfl, .ty _, (ty_lst hS), kit_ty (by decide +kernel), ⟨true, rfl, iteF ?_⟩⟩⟩
    refine ⟨_, rfl, p, rfl, ⟨_, hS⟩, for_list (K := K) (a := p) (xs := as.map V.ref) (fun i σ H2 => (∃ v, σ = [some (.int n), some (.ref p), v]) ∧ H2 = H) ⟨⟨none, rfl⟩, rfl⟩ (fun i σ H2 _ h => by rw [h.2]; exact hS) ?_ ?_⟩
    · rintro i y σ H2 hi ⟨⟨v, rfl⟩, rfl⟩
      obtain ⟨a, ha, rfl⟩ := ref_at hi
      obtain ⟨d, hd, hT⟩ := hD.at_ i a ha
      refine ⟨_, rfl, _, rfl, n, a, d, rfl, hT, deedB n d, rfl, ?_⟩
      rw [deedB_ok (hok d (List.mem_of_getElem? hd))]
      exact iteF ⟨⟨_, rfl⟩, rfl⟩
    · rintro σ H2 ⟨⟨v, rfl⟩, rfl⟩
      exact q
end
end DR
namespace DR
open PySem PySem.Spec PyProof.Rows L2
section
variable {P : Program} {w : World} {K : PySem.W.Frag} {mg : Str → Option Value} {base : Heap}
theorem scTurned : FnScope ["size", "row", "deeds", "changes", "first", "end", "steps", "behind", "turn", "place", "figure"] ["size", "row", "deeds"] (defScope sTurned) := ⟨rfl, rfl, rfl, by decide +kernel, rfl, by decide +kernel, by decide +kernel⟩
theorem bump_V (c : List Int) (k : Nat) (s y : Int) (h : c[k]? = some y) : (c.map V.int).set k (.int (y + s)) = (bump c k s).map V.int := by
  unfold bump
  rw [List.map_set, List.getD_eq_getElem?_getD, h]; rfl
theorem bump_Vs (c : List Int) (k : Nat) (s y : Int) (h : c[k]? = some y) : (c.map V.int).set k (.int (y - s)) = (bump c k (-s)).map V.int := by
  rw [Int.sub_eq_add_neg]
  exact bump_V c k (-s) y h
theorem ixN_nat {n k : Nat} (h : k < n) : ixN n (k : Int) = some k := by
  unfold ixN
  rw [if_pos (by omega), if_pos (by omega), Int.toNat_natCast]
theorem ok_turned (D : Def K mg "turned" sTurned ["size", "row", "deeds"]) (B : Blt mg) (GS : Callee P w K mg base 2 "check_size" ["size"] spSize) (GR : Callee P w K mg base 2 "check_row" ["size", "row"] (spRow K)) (GD : Callee P w K mg base 3 "check_deeds" ["dials", "deeds"] (spDeeds K)) :
    Callee P w K mg base 4 "turned" ["size", "row", "deeds"] (spTurned K) := by
  refine D.ok scTurned (fun vs H Q E h => ?_) (fun f cdv A outer s H vs Q E hr h => ?_)
  · obtain ⟨m, a, p, ns, as, ds, rfl, _⟩ := h
    rfl
  · obtain ⟨m, a, p, ns, as, ds, rfl, hS, hP, hD, hm, hR, hok, hl, q⟩ := h
    have hr2 : Room 2 _ := hr.mono (by decide)
    refine ⟨_, pss_cons (ps_expr (pe_c GS hr2 (by rfl) (pa_cons (pv 0) pa_nil)))
      (pss_cons (ps_expr (pe_c GR hr2 (by rfl) (pa_cons (pv 0) (pa_cons (pv 1) pa_nil))))
      (pss_cons (ps_expr (pe_c GD hr (by rfl) (pa_cons (pe_callB call_len_seq (by rfl) B.len PySem.boot_len (pa_cons (pv 1) pa_nil)) (pa_cons (pv 2) pa_nil))))
      (pss_cons (ps_set (i := 3) scTurned.nd rfl (.inl rfl) (pe_op op_rep (pe_lst (pa_cons pe_int pa_nil)) (pe_op op_add (pe_callB call_len_seq (by rfl) B.len PySem.boot_len (pa_cons (pv 1) pa_nil)) pe_int)))
      (pss_cons (ps_for PassesOwn.never rfl (pi_list (pv 2)) (pg_tup (by rfl) (pgs_cons (pg_name (i := 4) scTurned.nd rfl (.inl rfl)) (pgs_cons (pg_name (i := 5) scTurned.nd rfl (.inl rfl)) (pgs_cons (pg_name (i := 6) scTurned.nd rfl (.inl rfl)) pgs_nil))))
        (pss_cons (ps_augS (pv 3) (pv 4) get_list (pv 6) ip_add set_list) (pss_one (ps_augS (pv 3) (pv 5) get_list (pv 6) ip_sub set_list))))
      (pss_cons (ps_set (i := 7) scTurned.nd rfl (.inl rfl) (pe_lst pa_nil))
      (pss_cons (ps_set (i := 8) scTurned.nd rfl (.inl rfl) pe_int)
      (pss_cons (ps_for PassesOwn.never rfl (pi_enum (by rfl) B.enumerate (pa_cons (pv 1) pa_nil)) (pg_tup (by rfl) (pgs_cons (pg_name (i := 9) scTurned.nd rfl (.inl rfl)) (pgs_cons (pg_name (i := 10) scTurned.nd rfl (.inl rfl)) pgs_nil)))
        (pss_cons (ps_aug (i := 8) scTurned.nd rfl (.inl rfl) (pe_ix ix_list (pv 3) (pv 9) (fun _ _ => rfl)) ip_add)
        (pss_one (ps_expr (pe_bm PySem.F.plainAttrs_list PySem.F.slot_list_append PySem.F.type_list_append mt_append (pv 7) (pa_cons (pe_op op_mod (pe_op op_add (pv 10) (pv 8)) (pv 0)) pa_nil))))))
      (pss_one (ps_ret (pv 7)))))))))), ?_⟩
    -- the checks
    refine ⟨_, rfl, m, rfl, hm, ?_⟩
    refine ⟨_, rfl, _, rfl, m, a, ns, rfl, hS, hR, ?_⟩
    refine ⟨_, rfl, a, _, rfl, .inl hS, _, rfl, _, p, as, ds, rfl, hP, hD, by rw [List.length_map]; exact hok, ?_⟩
    -- changes = [0] * (len(row) + 1)
    refine ⟨by show 1 ≤ sizeLine; decide, fun l hl1 => ?_⟩
    have s1 : Same H (upd H l (.lst [.int 0])) := same_new hl1
    refine ⟨_, rfl, a, _, rfl, .inl (s1.seq hS), _, _, rfl, rfl, l, _, _, rfl, rfl, upd_same, ?_, ?_, ?_, fun c hc => ?_⟩
    · rw [List.length_map]; omega
    · rw [List.length_map]; omega
    · rw [List.length_map]
      exact line_of (by show ([V.int 0] : List V).length * _ ≤ _; simp only [List.length_cons, List.length_nil]; omega)
    have s2 : Same H (upd (upd H l (.lst [.int 0])) c (.lst (List.replicate (((ns.map V.int).length : Int) + 1).toNat [V.int 0]).flatten)) := s1.trans (same_new hc)
    have ec : (List.replicate (((ns.map V.int).length : Int) + 1).toNat [V.int 0]).flatten = (marks ns.length []).map V.int := by
      rw [List.length_map, show ((ns.length : Int) + 1).toNat = ns.length + 1 by omega]
      unfold marks
      show _ = (List.replicate (ns.length + 1) (0 : Int)).map V.int
      rw [List.map_replicate, List.flatten_replicate_singleton]
    have hcH : H c = none := s1.free hc
    -- the stretches' ends
    refine ⟨_, rfl, p, rfl, ⟨_, s2.seq hP⟩, for_list (K := K) (a := p) (xs := as.map V.ref)
      (fun i σ H2 => (∃ x4 x5 x6, σ = [some (.int m), some (.ref a), some (.ref p), some (.ref c), x4, x5, x6, none, none, none, none]) ∧ Same H H2 ∧ H2 c = some (.lst ((marks ns.length (ds.take i)).map V.int)))
      ⟨⟨none, none, none, rfl⟩, s2, by rw [upd_same, ec]; rfl⟩ (fun i σ H2 _ h => h.2.1.seq hP) ?_ ?_⟩
    · rintro i y σ H2 hi ⟨⟨x4, x5, x6, rfl⟩, sm, hc2⟩
      obtain ⟨t, ht, rfl⟩ := ref_at hi
      obtain ⟨⟨x, y, z⟩, hd, hT⟩ := hD.at_ i t ht
      obtain ⟨g1, g2, g3, g4⟩ := hok (x, y, z) (List.mem_of_getElem? hd)
      have g1' : 0 ≤ x := g1
      have g2' : x < y := g2
      have g3' : y ≤ (ns.length : Int) := g3
      obtain ⟨xn, rfl⟩ : ∃ k : Nat, x = (k : Int) := ⟨x.toNat, by omega⟩
      obtain ⟨yn, rfl⟩ : ∃ k : Nat, y = (k : Int) := ⟨y.toNat, by omega⟩
      have hlen := marks_length ns.length (ds.take i)
      have hx : xn < (marks ns.length (ds.take i)).length := by omega
      have hy : yn < (bump (marks ns.length (ds.take i)) xn z).length := by rw [bump_length]; omega
      have vx := List.getElem?_eq_getElem hx
      have vy := List.getElem?_eq_getElem hy
      refine ⟨t, _, rfl, .inl (.inl (sm _ _ hT)), rfl, _, _, rfl, _, _, rfl, _, _, rfl, rfl, ?_⟩
      refine ⟨_, rfl, _, rfl, c, _, _, _, rfl, rfl, SqL.of hc2, g1, atI_nat (at_map vx), _, rfl, _, _, rfl, rfl, c, _, _, xn, rfl, rfl, hc2, ixN_nat (by rw [List.length_map]; exact hx), ?_⟩
      rw [bump_V _ _ _ _ vx]
      refine ⟨_, rfl, _, rfl, c, _, _, _, rfl, rfl, SqL.of upd_same, by omega, atI_nat (at_map vy), _, rfl, _, _, rfl, rfl, c, _, _, yn, rfl, rfl, upd_same, ixN_nat (by rw [List.length_map]; exact hy), ?_⟩
      refine ⟨⟨_, _, _, rfl⟩, smut (smut sm hcH) hcH, ?_⟩
      rw [upd_same, take_snoc hd, marks_snoc]
      exact congrArg (fun q => some (HO.lst q)) (bump_Vs _ _ _ _ vy)
    · rintro σ H2 ⟨⟨x4, x5, x6, rfl⟩, sm, hc2⟩
      have ed : ds.take (as.map V.ref).length = ds := List.take_of_length_le (by rw [List.length_map, hD.len]; exact Nat.le_refl _)
      rw [ed] at hc2
      -- behind = []; turn = 0
      refine ⟨Nat.zero_le _, fun b hb => ?_⟩
      have hbH : H b = none := sm.free hb
      have hbc : c ≠ b := ne_of_none hc2 hb
      refine ⟨_, rfl, a, _, rfl, (smut sm hbH).seq hS, for_it (walk_enum (K := K) (a := a) (xs := ns.map V.int))
        (fun i σ H3 => (∃ x4 x5 x6 x9 x10, σ = [some (.int m), some (.ref a), some (.ref p), some (.ref c), x4, x5, x6, some (.ref b), some (.int ((marks ns.length ds).take i).sum), x9, x10]) ∧ Same H H3 ∧
          H3 c = some (.lst ((marks ns.length ds).map V.int)) ∧ H3 b = some (.lst (((behind m ns ds).take i).map V.int)))
        ⟨⟨_, _, _, _, _, rfl⟩, smut sm hbH, by rw [upd_ne hbc]; exact hc2, upd_same⟩ (fun i σ H3 _ h => h.2.1.seq hS) ?_ ?_⟩
      · rintro i y σ H3 H4 hi ⟨⟨y4, y5, y6, y9, y10, rfl⟩, sm3, hc3, hb3⟩ ⟨t, u, v, rfl, nt, rfl, hu, hv⟩
        obtain ⟨z, hz, rfl⟩ := map_at hv
        cases hu
        have sm4 := sm3.trans (same_new (o := .tup [.int ((i : Nat) : Int), .int z]) nt)
        have hc4 : (upd H3 t (.tup [.int ((i : Nat) : Int), .int z])) c = some (.lst ((marks ns.length ds).map V.int)) := by rw [upd_ne (ne_of_none hc3 nt)]; exact hc3
        have hb4 : (upd H3 t (.tup [.int ((i : Nat) : Int), .int z])) b = some (.lst (((behind m ns ds).take i).map V.int)) := by rw [upd_ne (ne_of_none hb3 nt)]; exact hb3
        have hil := at_lt hz
        have hx : i < (marks ns.length ds).length := by rw [marks_length]; omega
        have vx := List.getElem?_eq_getElem hx
        have es : ((marks ns.length ds).take i).sum + (marks ns.length ds)[i] = cover ds i := by
          rw [← sum_take vx]
          exact marks_take hok i
        refine ⟨t, _, rfl, .inl (.inl upd_same), rfl, _, _, rfl, _, _, rfl, rfl, ?_⟩
        refine ⟨_, rfl, _, rfl, _, rfl, c, _, _, _, rfl, rfl, SqL.of hc4, atI_nat (at_map vx), _, _, rfl, rfl, ?_⟩
        refine ⟨_, rfl, .inl ⟨rfl, _, SqL.of hb4⟩, _, rfl, _, rfl, _, _, rfl, rfl, _, rfl, _, _, rfl, rfl, (show (0 : Int) < m by omega), b, _, _, rfl, rfl, hb4, ?_, ?_⟩
        · rw [List.length_map, List.length_take]
          exact line_lt (by omega)
        · refine ⟨⟨y4, y5, y6, some (.int ((i : Nat) : Int)), some (.int z), ?_⟩, smut sm4 hbH, ?_, ?_⟩
          · rw [sum_take vx]; rfl
          · rw [upd_ne hbc]; exact hc4
          · rw [upd_same]
            show some (HO.lst (((behind m ns ds).take i).map V.int ++ [V.int ((z + (((marks ns.length ds).take i).sum + (marks ns.length ds)[i])) % m)])) = _
            have eb : (behind m ns ds)[i]? = some ((z + cover ds i) % m) := by rw [behind_get, hz]; rfl
            rw [es, take_snoc eb, List.map_append]
            rfl
      · rintro σ H3 ⟨⟨y4, y5, y6, y9, y10, rfl⟩, sm3, hc3, hb3⟩
        have eb : (behind m ns ds).take (ns.map V.int).length = behind m ns ds := List.take_of_length_le (by rw [List.length_map, behind_length]; exact Nat.le_refl _)
        rw [eb] at hb3
        exact ⟨_, rfl, q H3 b sm3 hbH hb3⟩
end
end DR
namespace DR
open PySem PySem.Spec PyProof.Rows L2
/-! ### the law's own helpers -/
def spLSize (K : PySem.W.Frag) : Sp := fun vs H Q _ => ∃ (a : Addr) (ns : List Int), vs = [.ref a] ∧ SqL K H a (ns.map V.int) ∧ ∀ (m : Int) H', 2 ≤ m → m < 1000000000000000000000 → Same H H' → Q (.int m) H'
/-- how many dials the law's rows have -/
def rowLen (ns : List Int) : Nat := if ns.sum / 21 % 9 = 4 ∧ ns ≠ [] then 70 + (ns.sum % 30).toNat else ns.length
theorem rowLen_le {ns : List Int} (h : ns.length ≤ 63) : rowLen ns ≤ 99 := by
  unfold rowLen
  split <;> omega
theorem rowLen_nil {ns : List Int} : rowLen ns = 0 ↔ ns = [] := by
  unfold rowLen
  by_cases h : ns.sum / 21 % 9 = 4 ∧ ns ≠ []
  · rw [if_pos h]
    exact ⟨fun e => by omega, fun e => absurd e h.2⟩
  · rw [if_neg h]
    exact List.length_eq_zero_iff
def spLRow (K : PySem.W.Frag) : Sp := fun vs H Q _ => ∃ (a : Addr) (ns : List Int) (m by' : Int), vs = [.ref a, .int m, .int by'] ∧ SqL K H a (ns.map V.int) ∧ 2 ≤ m ∧ m < 1000000000000000000000 ∧ 0 ≤ by' ∧ by' ≤ 3 ∧ ns.length ≤ 63 ∧
  ∀ (rs : List Int) H' p, Same H H' → H p = none → H' p = some (.lst (rs.map V.int)) → RowOk m rs → rs.length = rowLen ns → Q (.ref p) H'
theorem log_of {j : Int} (h : 0 < j) (h2 : j < 10000000000000000000000) : CDivW 0 j := wide_div (b := 80) h (by omega) (by decide) (by decide)
theorem rowOk_nil {m : Int} : RowOk m [] := fun x hx => nomatch hx
section
variable {P : Program} {w : World} {K : PySem.W.Frag} {mg : Str → Option Value} {base : Heap}
theorem scLSize : FnScope ["_law_script", "_law_mixed"] ["_law_script"] (defScope lSize) := ⟨rfl, rfl, rfl, by decide +kernel, rfl, by decide +kernel, by decide +kernel⟩
theorem ok_lSize (D : Def K mg "_law_size" lSize ["_law_script"]) (B : Blt mg) : Callee P w K mg base 1 "_law_size" ["_law_script"] (spLSize K) := by
  refine D.ok scLSize (fun vs H Q E h => ?_) (fun f cdv A outer s H vs Q E hr h => ?_)
  · obtain ⟨a, ns, rfl, _⟩ := h
    rfl
  · obtain ⟨a, ns, rfl, hS, q⟩ := h
    refine ⟨_, pss_cons (ps_set (i := 1) scLSize.nd rfl (.inl rfl) (pe_callB (cr_sum rfl) (by rfl) B.sum PyProof.Rows.boot_sum (pa_cons (pv 0) pa_nil)))
      (pss_one (ps_ret (pe_ix ix_tup (pe_tup (pa_cons pe_int (pa_cons (pe_op op_add pe_int (pe_op op_mod (pe_op op_fdiv (pv 1) pe_int) pe_int)) (pa_cons pe_int (pa_cons (pe_op op_add (pe_op op_pow pe_int pe_int) (pe_op op_mod (pv 1) pe_int)) (pa_cons pe_int pa_nil))))))
        (pe_op op_mod (pe_op op_fdiv (pv 1) pe_int) pe_int) (fun _ _ => rfl)))), ?_⟩
    refine ⟨_, rfl, a, ns, rfl, hS, ?_⟩
    generalize ns.sum = S
    refine ⟨_, rfl, S, 5, rfl, rfl, ⟨by decide, by decide⟩, _, 5, rfl, rfl, (by show (0 : Int) < 5; decide), _, _, rfl, rfl, 10, 20, rfl, rfl, ⟨by decide, by decide, by decide⟩, _, rfl, S, 1000, rfl, rfl, (by show (0 : Int) < 1000; decide), _, _, rfl, rfl, (by show 5 ≤ sizeLine; decide), fun t ht => ?_⟩
    refine ⟨_, rfl, S, 11, rfl, rfl, ⟨by decide, by decide⟩, _, 5, rfl, rfl, (by show (0 : Int) < 5; decide), ?_⟩
    obtain ⟨k, hk, hk5⟩ : ∃ k : Nat, S / 11 % 5 = (k : Int) ∧ k < 5 := ⟨(S / 11 % 5).toNat, by omega, by omega⟩
    have hL : ∀ x ∈ ([2, 3 + S / 5 % 5, 10, 10 ^ (20 : Int).toNat + S % 1000, 60] : List Int), 2 ≤ x ∧ x < 1000000000000000000000 := by
      intro x hx
      have e : (10 : Int) ^ (20 : Int).toNat = 100000000000000000000 := by decide
      rw [e] at hx
      simp only [List.mem_cons, List.not_mem_nil, or_false] at hx
      omega
    have hlen : k < ([2, 3 + S / 5 % 5, 10, 10 ^ (20 : Int).toNat + S % 1000, 60] : List Int).length := hk5
    obtain ⟨b1, b2⟩ := hL _ (List.getElem_mem hlen)
    refine ⟨t, _, _, .int _, rfl, rfl, SqT.of upd_same, at_of hk (at_map (f := V.int) (List.getElem?_eq_getElem hlen)), ?_⟩
    exact q _ _ b1 b2 (same_new ht)
theorem scLRow : FnScope ["_law_script", "_law_size_here", "_law_by", "_law_mixed", "_law_found", "_law_last", "_law_cell", "_law_figure", "_law_some", "_law_at"] ["_law_script", "_law_size_here", "_law_by"] (defScope lRow) := ⟨rfl, rfl, rfl, by decide +kernel, rfl, by decide +kernel, by decide +kernel⟩
theorem ok_lRow (D : Def K mg "_law_row" lRow ["_law_script", "_law_size_here", "_law_by"]) (B : Blt mg) : Callee P w K mg base 1 "_law_row" ["_law_script", "_law_size_here", "_law_by"] (spLRow K) := by
  refine D.ok scLRow (fun vs H Q E h => ?_) (fun f cdv A outer s H vs Q E hr h => ?_)
  · obtain ⟨a, ns, m, b, rfl, _⟩ := h
    rfl
  · obtain ⟨a, ns, m, b, rfl, hS, hm, hm2, hb0, hb3, hlen, q⟩ := h
    refine ⟨_, pss_cons (ps_set (i := 3) scLRow.nd rfl (.inl rfl) (pe_callB (cr_sum rfl) (by rfl) B.sum PyProof.Rows.boot_sum (pa_cons (pv 0) pa_nil)))
      (pss_cons (ps_set (i := 4) scLRow.nd rfl (.inl rfl) (pe_lst pa_nil))
      (pss_cons (ps_set (i := 5) scLRow.nd rfl (.inl rfl) pe_int)
      (pss_cons (ps_for PassesOwn.never rfl (pi_list (pv 0)) (pg_name (i := 6) scLRow.nd rfl (.inl rfl))
        (pss_cons (ps_set (i := 7) scLRow.nd rfl (.inl rfl) (pe_op op_mod (pe_op op_fdivW (pv 6) (pe_ix ix_tup (pe_tup (pa_cons pe_int (pa_cons (pv 1) (pa_cons pe_int (pa_cons (pe_op op_mul (pv 1) pe_int) pa_nil))))) (pe_op op_mod (pv 2) pe_int) (fun _ _ => rfl))) (pv 1)))
        (Evl.pss_cut (ps_if (pt_cmpR op_eq (pe_op op_mod (pe_op op_fdiv (pv 3) pe_int) pe_int) pe_int (nomark _))
          (pss_one (ps_set (i := 7) scLRow.nd rfl (.inl rfl) (pe_op op_mod (pe_op op_sub (pe_op op_add (pv 5) (pe_op op_mod (pv 7) pe_int)) pe_int) (pv 1)))) pss_nil)
        (pss_cons (ps_set (i := 5) scLRow.nd rfl (.inl rfl) (pv 7))
        (pss_one (ps_expr (pe_bm PySem.F.plainAttrs_list PySem.F.slot_list_append PySem.F.type_list_append mt_append (pv 4) (pa_cons (pv 7) pa_nil))))))))
      (pss_cons (ps_if (PW.pt (pw_and (pt_cmpR op_eq (pe_op op_mod (pe_op op_fdiv (pv 3) pe_int) pe_int) pe_int (nomark _)) (pw_and1 (pt_cmpR (op_neD hr.units) (pv 4) (pe_lst pa_nil) (nomark _)))))
        (pss_cons (ps_set (i := 8) scLRow.nd rfl (.inl rfl) (pv 4))
        (pss_cons (ps_set (i := 4) scLRow.nd rfl (.inl rfl) (pe_lst pa_nil))
        (pss_one (ps_for PassesOwn.never rfl (pi_range1 rfl B.range (pa_cons (pe_op op_add pe_int (pe_op op_mod (pv 3) pe_int)) pa_nil)) (pg_name (i := 9) scLRow.nd rfl (.inl rfl))
          (pss_cons (ps_set (i := 7) scLRow.nd rfl (.inl rfl) (pe_ix ix_list (pv 8) (pe_op op_mod (pe_op op_mul (pv 9) (pe_op op_add (pv 2) pe_int)) (pe_callB call_len_seq (by rfl) B.len PySem.boot_len (pa_cons (pv 8) pa_nil))) (fun _ _ => rfl)))
          (pss_one (ps_expr (pe_bm PySem.F.plainAttrs_list PySem.F.slot_list_append PySem.F.type_list_append mt_append (pv 4) (pa_cons (pe_op op_mod (pe_op op_add (pv 7) (pe_op op_mul (pe_op op_fdiv (pv 9) (pe_callB call_len_seq (by rfl) B.len PySem.boot_len (pa_cons (pv 8) pa_nil))) (pv 2))) (pv 1)) pa_nil))))))))) pss_nil)
      (pss_one (ps_ret (pv 4))))))), ?_⟩
    refine ⟨_, rfl, a, ns, rfl, hS, ?_⟩
    have hrl : rowLen ns = if ns.sum / 21 % 9 = 4 ∧ ns ≠ [] then 70 + (ns.sum % 30).toNat else ns.length := rfl
    generalize ns.sum = S at hrl
    refine ⟨Nat.zero_le _, fun p hp => ?_⟩
    have hmp : 0 < m := by omega
    refine ⟨_, rfl, a, rfl, ⟨_, (same_new hp).seq hS⟩, for_list (K := K) (a := a) (xs := ns.map V.int)
      (fun i σ H2 => ∃ (rs : List Int) (last : Int) (x6 x7 : Option V), σ = [some (.ref a), some (.int m), some (.int b), some (.int S), some (.ref p), some (.int last), x6, x7, none, none] ∧ Same H H2 ∧ H2 p = some (.lst (rs.map V.int)) ∧ RowOk m rs ∧ rs.length = i)
      ⟨[], 0, none, none, rfl, same_new hp, upd_same, rowOk_nil, rfl⟩ (fun i σ H2 _ h => by obtain ⟨_, _, _, _, _, sm, _⟩ := h; exact sm.seq hS) ?_ ?_⟩
    · rintro i y σ H2 hi ⟨rs, last, x6, x7, rfl, sm, hp2, hR, hl⟩
      obtain ⟨z, hz, rfl⟩ := map_at hi
      have hi63 := at_lt hz
      refine ⟨_, rfl, _, rfl, _, rfl, m, 5, rfl, rfl, .inr ⟨by decide, by decide⟩, (by show 4 ≤ sizeLine; decide), fun t ht => ?_⟩
      have sm3 : Same H2 (upd H2 t (.tup [.int 1, .int m, .int 7, .int (m * 5)])) := same_new ht
      obtain ⟨k, hk, hk4⟩ : ∃ k : Nat, b % 4 = (k : Int) ∧ k < 4 := ⟨(b % 4).toNat, by omega, by omega⟩
      have hL : ∀ x ∈ ([1, m, 7, m * 5] : List Int), 0 < x ∧ x < 10000000000000000000000 := by
        intro x hx
        simp only [List.mem_cons, List.not_mem_nil, or_false] at hx
        omega
      have hlk : k < ([1, m, 7, m * 5] : List Int).length := hk4
      obtain ⟨b1, b2⟩ := hL _ (List.getElem_mem hlk)
      refine ⟨_, rfl, b, 4, rfl, rfl, (by show (0 : Int) < 4; decide), t, _, _, .int _, rfl, rfl, SqT.of upd_same, at_of hk (at_map (f := V.int) (List.getElem?_eq_getElem hlk)), z, _, rfl, rfl, ⟨b1, (log_of b1 b2).2⟩, ?_⟩
      refine ⟨_, rfl, _, m, rfl, rfl, hmp, ?_⟩
      have g1 := Int.emod_nonneg (z / ([1, m, 7, m * 5] : List Int)[k]) (show m ≠ 0 by omega)
      have g2 := Int.emod_lt_of_pos (z / ([1, m, 7, m * 5] : List Int)[k]) hmp
      -- near one another
      refine ⟨fun σ H3 => ∃ fg : Int, 0 ≤ fg ∧ fg < m ∧ σ = [some (.ref a), some (.int m), some (.int b), some (.int S), some (.ref p), some (.int last), some (.int z), some (.int fg), none, none] ∧ Same H H3 ∧ H3 p = some (.lst (rs.map V.int)), ?_, ?_⟩
      · have hp3 : (upd H2 t (.tup [.int 1, .int m, .int 7, .int (m * 5)])) p = some (.lst (rs.map V.int)) := by rw [upd_ne (ne_of_none hp2 ht)]; exact hp2
        refine ⟨_, rfl, S, 7, rfl, rfl, ⟨by decide, by decide⟩, _, 3, rfl, rfl, (by show (0 : Int) < 3; decide), rfl, _, rfl, ite2 (fun e => ?_) (fun e => ?_)⟩
        · refine ⟨_, rfl, _, rfl, _, 3, rfl, rfl, (by show (0 : Int) < 3; decide), _, _, rfl, rfl, _, _, rfl, rfl, _, rfl, _, m, rfl, rfl, hmp, ?_⟩
          exact ⟨_, Int.emod_nonneg _ (by omega), Int.emod_lt_of_pos _ hmp, rfl, sm.trans sm3, hp3⟩
        · exact ⟨_, g1, g2, rfl, sm.trans sm3, hp3⟩
      · rintro σ H3 ⟨fg, h1, h2, rfl, sm4, hp4⟩
        refine ⟨_, rfl, _, rfl, .inl ⟨rfl, _, SqL.of hp4⟩, _, rfl, p, _, _, rfl, rfl, hp4, ?_, ?_⟩
        · rw [List.length_map]
          exact line_lt (by omega)
        · refine ⟨rs ++ [fg], fg, some (.int z), some (.int fg), rfl, smut sm4 hp, ?_, ?_, ?_⟩
          · rw [upd_same, List.map_append]; rfl
          · intro x hx
            rcases List.mem_append.mp hx with h | h
            · exact hR x h
            · have : x = fg := by simpa using h
              subst this
              exact ⟨h1, h2⟩
          · rw [List.length_append, hl]; rfl
    · rintro σ H2 ⟨rs, last, x6, x7, rfl, sm, hp2, hR, hl⟩
      rw [List.length_map] at hl
      refine ⟨_, rfl, S, 21, rfl, rfl, ⟨by decide, by decide⟩, _, 9, rfl, rfl, (by show (0 : Int) < 9; decide), rfl, _, rfl, ite2 (fun e => ?_) (fun e => ?_)⟩
      · have e1 : S / 21 % 9 = 4 := V.int.inj (of_decide_eq_true e)
        refine ⟨_, rfl, Nat.zero_le _, fun c hc => ?_⟩
        have hp3 : (upd H2 c (.lst [])) p = some (.lst (rs.map V.int)) := by rw [upd_ne (ne_of_none hp2 hc)]; exact hp2
        refine ⟨dI rs, dI [], dp_lst (SqL.of hp3), dp_lst (ns := []) (SqL.of upd_same), sh_dI _, sh_dI _, _, rfl, ?_⟩
        rw [eqv_dI]
        by_cases hrs : rs = []
        · rw [decide_eq_true hrs]
          refine iteF ⟨_, rfl, q rs _ p (smut sm (sm.free hc)) hp hp3 hR ?_⟩
          have hn : ns = [] := by
            rw [← List.length_eq_zero_iff, ← hl, hrs]
            rfl
          rw [hrl, if_neg (fun z => z.2 hn), hl]
        · rw [decide_eq_false hrs]
          have hn0 : 0 < rs.length := List.length_pos_iff.mpr hrs
          refine iteT ⟨_, rfl, Nat.zero_le _, fun d hd => ?_⟩
          have hcH : H c = none := sm.free hc
          have sm4 : Same H (upd (upd H2 c (.lst [])) d (.lst [])) := (smut sm hcH).trans (same_new hd)
          have hdH : H d = none := (smut (o := .lst []) sm hcH).free hd
          have hpd : p ≠ d := ne_of_none hp3 hd
          have c0 := Int.emod_nonneg S (show (30 : Int) ≠ 0 by decide)
          have c1 := Int.emod_lt_of_pos S (show (0 : Int) < 30 by decide)
          have hrl2 : rowLen ns = 70 + (S % 30).toNat := by
            rw [hrl, if_pos ⟨e1, fun z => hrs (by rw [← List.length_eq_zero_iff, hl, z]; rfl)⟩]
          refine ⟨_, rfl, S, 30, rfl, rfl, (by show (0 : Int) < 30; decide), 70, _, rfl, rfl, _, rfl, by omega, by omega, for_range (lo := 0) (n := (70 + S % 30).toNat)
            (fun i σ H4 => ∃ (ts : List Int) (x7 x9 : Option V), σ = [some (.ref a), some (.int m), some (.int b), some (.int S), some (.ref d), some (.int last), x6, x7, some (.ref p), x9] ∧ Same H H4 ∧ H4 p = some (.lst (rs.map V.int)) ∧ H4 d = some (.lst (ts.map V.int)) ∧ RowOk m ts ∧ ts.length = i)
            ⟨[], x7, none, rfl, sm4, by rw [upd_ne hpd]; exact hp3, upd_same, rowOk_nil, rfl⟩ ?_ ?_⟩
          · rintro i σ H4 hi ⟨ts, x7, x9, rfl, sm5, hp5, hd5, hT, hl5⟩
            have hlr : rs.length ≤ 63 := by omega
            have hlp : (0 : Int) < ((rs.map V.int).length : Int) := by rw [List.length_map]; omega
            have j0 := Int.emod_nonneg ((0 + (i : Int)) * (b + 1)) (show ((rs.map V.int).length : Int) ≠ 0 by omega)
            have j1 := Int.emod_lt_of_pos ((0 + (i : Int)) * (b + 1)) hlp
            obtain ⟨k, hk⟩ : ∃ k : Nat, (0 + (i : Int)) * (b + 1) % ((rs.map V.int).length : Int) = (k : Int) := ⟨((0 + (i : Int)) * (b + 1) % ((rs.map V.int).length : Int)).toNat, by omega⟩
            have hk2 : k < rs.length := by rw [hk, List.length_map] at j1; omega
            refine ⟨_, rfl, _, rfl, _, rfl, b, 1, rfl, rfl, _, _, rfl, rfl, .inr ⟨by omega, by omega⟩, _, rfl, p, _, rfl, .inl (SqL.of hp5), _, _, rfl, rfl, hlp, p, _, _, .int _, rfl, rfl, SqL.of hp5, at_of hk (at_map (List.getElem?_eq_getElem hk2)), ?_⟩
            refine ⟨_, rfl, .inl ⟨rfl, _, SqL.of hd5⟩, _, rfl, _, rfl, _, rfl, p, _, rfl, .inl (SqL.of hp5), _, _, rfl, rfl, ⟨hlp, by rw [List.length_map]; omega⟩, _, rfl, _, b, rfl, rfl, .inr ⟨by omega, by omega⟩, _, _, rfl, rfl, _, rfl, _, m, rfl, rfl, hmp, d, _, _, rfl, rfl, hd5, ?_, ?_⟩
            · rw [List.length_map]
              exact line_lt (by omega)
            · refine ⟨ts ++ [(rs[k] + (0 + (i : Int)) / ((rs.map V.int).length : Int) * b) % m], some (.int rs[k]), some (.int (0 + (i : Int))), rfl, smut sm5 hdH, by rw [upd_ne hpd]; exact hp5, ?_, ?_, ?_⟩
              · rw [upd_same, List.map_append]; rfl
              · intro x hx
                rcases List.mem_append.mp hx with h | h
                · exact hT x h
                · have : x = _ := List.mem_singleton.mp h
                  subst this
                  exact ⟨Int.emod_nonneg _ (by omega), Int.emod_lt_of_pos _ hmp⟩
              · rw [List.length_append, hl5]; rfl
          · rintro σ H4 ⟨ts, x7, x9, rfl, sm5, hp5, hd5, hT, hl5⟩
            exact ⟨_, rfl, q ts H4 d sm5 hdH hd5 hT (by rw [hl5, hrl2]; omega)⟩
      · have e1 : ¬ S / 21 % 9 = 4 := fun z => e (decide_eq_true (congrArg V.int z))
        refine iteF ⟨_, rfl, q rs _ p sm hp hp2 hR ?_⟩
        rw [hrl, if_neg (fun z => e1 z.1), hl]
end
end DR
namespace DR
open PySem PySem.Spec PyProof.Rows L2
def spLNumbers (K : PySem.W.Frag) : Sp := fun vs H Q _ => ∃ (a : Addr) (ns : List Int), vs = [.ref a] ∧ SqL K H a (ns.map V.int) ∧ ns.length ≤ 1000 ∧ ∀ H', Same H H' → Q (.bl true) H'
def spLTurned (K : PySem.W.Frag) : Sp := fun vs H Q _ => ∃ (m : Int) (a p : Addr) (ns : List Int) (as : List Addr) (ds : List Deed), vs = [.int m, .ref a, .ref p] ∧ SqL K H a (ns.map V.int) ∧ SqL K H p (as.map V.ref) ∧ DsAt H as ds ∧
  2 ≤ m ∧ RowOk m ns ∧ ns.length ≤ 1000 ∧ (DeedsOk ns.length ds → ∀ H' q, Same H H' → H q = none → H' q = some (.lst ((behind m ns ds).map V.int)) → Q (.ref q) H') ∧ (¬ DeedsOk ns.length ds → ∀ H', Same H H' → Q .non H')
def spLDeeds (K : PySem.W.Frag) : Sp := fun vs H Q _ => ∃ (a : Addr) (ns : List Int) (n : Int), vs = [.ref a, .int n] ∧ SqL K H a (ns.map V.int) ∧ 0 ≤ n ∧ n ≤ 1000 ∧ ns.length ≤ 63 ∧ (∀ z ∈ ns, Builtin.Int.intBits z ≤ 1048576) ∧
  ∀ H' p as ds, Same H H' → H p = none → H' p = some (.lst (as.map V.ref)) → DsAt H' as ds → DeedsOk n ds → ds.length ≤ 63 → Q (.ref p) H'
theorem deedsOk_nil {n : Int} : DeedsOk n [] := fun d hd => nomatch hd
section
variable {P : Program} {w : World} {K : PySem.W.Frag} {mg : Str → Option Value} {base : Heap}
theorem scLNumbers : FnScope ["_law_found", "_law_one"] ["_law_found"] (defScope lNumbers) := ⟨rfl, rfl, rfl, by decide +kernel, rfl, by decide +kernel, by decide +kernel⟩
theorem ok_lNumbers (D : Def K mg "_law_numbers" lNumbers ["_law_found"]) (B : Blt mg) : Callee P w K mg base 1 "_law_numbers" ["_law_found"] (spLNumbers K) := by
  refine D.ok scLNumbers (fun vs H Q E h => ?_) (fun f cdv A outer s H vs Q E hr h => ?_)
  · obtain ⟨a, ns, rfl, _⟩ := h
    rfl
  · obtain ⟨a, ns, rfl, hS, hl, q⟩ := h
    refine ⟨_, pss_cons (ps_if (pt_not (pt_val (pe_callB call_isi (by rfl) B.isi boot_isinstance (pa_cons (pv 0) (pa_cons (pe_bltn (v := .ty "list") (by rfl) B.list PyProof.Rows.boot_list rfl) pa_nil))))) (pss_one (ps_ret pe_bl)) pss_nil)
      (pss_one (ps_ret (pe_callB (cr_all rfl) (by rfl) B.all PyProof.Rows.boot_all (pa_cons (pe_lc (own := [("_law_one", 1)]) (g := gName 1) (tt := tYes) rfl scLNumbers.nd (pi_list (pv 0)) (blkOk_by (N := ["_law_found", "_law_one"]) (sc := defScope lNumbers) (by decide +kernel))
        (fun _ _ _ _ _ => pg_name (i := 1) scLNumbers.nd rfl (Or.inl rfl)) (fun _ _ _ _ _ => pts_nil)
        (fun _ _ _ _ _ => pe_and (pe_callB (r := rIsi K) call_isi (by rfl) B.isi boot_isinstance (pa_cons (pv 1) (pa_cons (pe_bltn (v := .ty "int") (by rfl) B.int PyProof.Rows.boot_int rfl) pa_nil)))
          (pe_one (pe_not (pe_callB (r := rIsi K) call_isi (by rfl) B.isi boot_isinstance (pa_cons (pv 1) (pa_cons (pe_bltn (v := .ty "bool") (by rfl) B.bool PyProof.Rows.boot_bool rfl) pa_nil))))))) pa_nil)))), ?_⟩
    refine ⟨_, rfl, _, _, _, _, true, rfl, .ty _, ty_lst hS, kit_ty (by decide +kernel), true, rfl, iteF ?_⟩
    refine ⟨_, rfl, a, rfl, ⟨_, hS⟩, fun L hL => lc_list (K := K) (a := a) (xs := ns.map V.int) (fun i H2 => Same H H2 ∧ H2 L = some (.lst ((List.replicate i true).map V.bl))) ⟨same_new hL, upd_same⟩ (fun i H2 _ h => h.1.seq hS) ?_ ?_⟩
    · rintro i x H2 hi ⟨sm, hL2⟩
      obtain ⟨z, hz, rfl⟩ := map_at hi
      have hlt := at_lt hz
      refine ⟨rfl, _, rfl, _, _, _, _, true, rfl, .ty _, .base (.int z), kit_ty (by decide +kernel), true, rfl, iteT ⟨_, rfl, _, _, _, _, false, rfl, .ty _, .base (.int z), kit_ty (by decide +kernel), false, rfl, _, hL2, ?_, smut sm hL, ?_⟩⟩
      · rw [List.length_map, List.length_replicate]
        exact line_lt (by omega)
      · rw [upd_same, List.replicate_succ', List.map_append]
        rfl
    · rintro H2 ⟨sm, hL2⟩
      refine ⟨L, _, rfl, SqL.of hL2, ?_⟩
      rw [show (List.replicate (ns.map V.int).length true).all id = true by simp]
      exact q _ sm
theorem scLTurned : FnScope ["_law_size_here", "_law_row_here", "_law_deeds_here", "_law_found", "_law_first", "_law_end", "_law_steps", "_law_place"] ["_law_size_here", "_law_row_here", "_law_deeds_here"] (defScope lTurned) := ⟨rfl, rfl, rfl, by decide +kernel, rfl, by decide +kernel, by decide +kernel⟩
theorem ok_lTurned (D : Def K mg "_law_turned" lTurned ["_law_size_here", "_law_row_here", "_law_deeds_here"]) (B : Blt mg) : Callee P w K mg base 1 "_law_turned" ["_law_size_here", "_law_row_here", "_law_deeds_here"] (spLTurned K) := by
  refine D.ok scLTurned (fun vs H Q E h => ?_) (fun f cdv A outer s H vs Q E hr h => ?_)
  · obtain ⟨m, a, p, ns, as, ds, rfl, _⟩ := h
    rfl
  · obtain ⟨m, a, p, ns, as, ds, rfl, hS, hP, hD, hm, hR, hl, q, qn⟩ := h
    refine ⟨_, pss_cons (ps_set (i := 3) scLTurned.nd rfl (.inl rfl) (pe_callTy call_list_of (by rfl) B.list PyProof.Rows.boot_list (pa_cons (pv 1) pa_nil)))
      (pss_cons (ps_for PassesOwn.never rfl (pi_list (pv 2)) (pg_tup (by rfl) (pgs_cons (pg_name (i := 4) scLTurned.nd rfl (.inl rfl)) (pgs_cons (pg_name (i := 5) scLTurned.nd rfl (.inl rfl)) (pgs_cons (pg_name (i := 6) scLTurned.nd rfl (.inl rfl)) pgs_nil))))
        (pss_cons (ps_if (PW.pt (pw_or (pt_not (pt_chain3 op_le op_lt op_le pe_int (pv 4) (pv 5) (pe_callB call_len_seq (by rfl) B.len PySem.boot_len (pa_cons (pv 1) pa_nil)))) (pw_or1 (pt_cmpR op_eq (pv 6) pe_int (nomark _))))) (pss_one (ps_ret pe_non)) pss_nil)
        (pss_one (ps_for PassesOwn.never rfl (pi_range2 (by rfl) B.range (pa_cons (pv 4) (pa_cons (pv 5) pa_nil))) (pg_name (i := 7) scLTurned.nd rfl (.inl rfl))
          (pss_one (ps_asg (pe_op op_mod (pe_op op_add (pe_ix ix_list (pv 3) (pv 7) (fun _ _ => rfl)) (pv 6)) (pv 0)) (pg_sub (pv 3) (pv 7) set_list)))))))
      (pss_one (ps_ret (pv 3)))), ?_⟩
    have hmp : 0 < m := by omega
    refine ⟨_, rfl, a, _, rfl, .inl hS, fun c hc => ?_⟩
    refine ⟨_, rfl, p, rfl, ⟨_, (same_new hc).seq hP⟩, for_list (K := K) (a := p) (xs := as.map V.ref)
      (fun i σ H2 => (∃ x4 x5 x6 x7, σ = [some (.int m), some (.ref a), some (.ref p), some (.ref c), x4, x5, x6, x7]) ∧ Same H H2 ∧ H2 c = some (.lst ((behind m ns (ds.take i)).map V.int)) ∧ DeedsOk ns.length (ds.take i))
      ⟨⟨none, none, none, none, rfl⟩, same_new hc, by rw [upd_same, List.take_zero, behind_nil hR], fun d hd => nomatch hd⟩ (fun i σ H2 _ h => h.2.1.seq hP) ?_ ?_⟩
    · rintro i y σ H2 hi ⟨⟨x4, x5, x6, x7, rfl⟩, sm, hc2, hok⟩
      obtain ⟨t, ht, rfl⟩ := ref_at hi
      obtain ⟨⟨x, y, z⟩, hd, hT⟩ := hD.at_ i t ht
      refine ⟨t, _, rfl, .inl (.inl (sm _ _ hT)), rfl, _, _, rfl, _, _, rfl, _, _, rfl, rfl, ?_⟩
      have bad : ¬ DeedOk ns.length (x, y, z) → Q .non H2 := fun hb => qn (fun h => hb (h _ (List.mem_of_getElem? hd))) H2 sm
      refine ⟨_, rfl, 0, x, rfl, rfl, _, rfl, ?_⟩
      by_cases h1 : 0 ≤ x
      · rw [decide_eq_true h1]
        refine iteT ⟨_, rfl, x, y, rfl, rfl, _, rfl, ?_⟩
        by_cases h2 : x < y
        · rw [decide_eq_true h2]
          refine iteT ⟨_, rfl, a, _, rfl, .inl (sm.seq hS), y, _, rfl, rfl, _, rfl, ?_⟩
          by_cases h3 : y ≤ (ns.length : Int)
          · rw [decide_eq_true (show y ≤ ((ns.map V.int).length : Int) by rw [List.length_map]; exact h3)]
            refine iteF ⟨_, rfl, rfl, _, rfl, ?_⟩
            by_cases h4 : z = 0
            · rw [decide_eq_true (congrArg V.int h4)]
              exact iteT (bad fun g => g.2.2.2 h4)
            · rw [decide_eq_false (fun e => h4 (V.int.inj e))]
              have g : DeedOk ns.length (x, y, z) := ⟨h1, h2, h3, h4⟩
              refine iteF ⟨_, rfl, _, rfl, x, y, rfl, ⟨by omega, by omega, by omega, by omega⟩, for_range (lo := x) (n := (y - x).toNat)
                (fun k σ H3 => (∃ x7, σ = [some (.int m), some (.ref a), some (.ref p), some (.ref c), some (.int x), some (.int y), some (.int z), x7]) ∧ Same H H3 ∧ H3 c = some (.lst ((behind m ns (ds.take i ++ [(x, x + (k : Int), z)])).map V.int)))
                ⟨⟨_, rfl⟩, sm, by rw [show x + ((0 : Nat) : Int) = x by omega, behind_empty]; exact hc2⟩ ?_ ?_⟩
              · rintro k σ H3 hk ⟨⟨y7, rfl⟩, sm3, hc3⟩
                have hlt : (x + (k : Int)).toNat < (behind m ns (ds.take i ++ [(x, x + (k : Int), z)])).length := by rw [behind_length]; omega
                have hv := List.getElem?_eq_getElem hlt
                have hn : x + (k : Int) = ((x + (k : Int)).toNat : Int) := by omega
                refine ⟨_, rfl, _, rfl, c, _, _, .int _, rfl, rfl, SqL.of hc3, at_of hn (at_map hv), _, rfl, _, _, rfl, rfl, _, rfl, _, m, rfl, rfl, hmp, _, rfl, _, rfl, c, _, _, (x + (k : Int)).toNat, rfl, rfl, hc3, ?_, ⟨_, rfl⟩, smut sm3 hc, ?_⟩
                · have e := ixN_nat (n := ((behind m ns (ds.take i ++ [(x, x + (k : Int), z)])).map V.int).length) (k := (x + (k : Int)).toNat) (by rw [List.length_map]; exact hlt)
                  rw [← hn] at e
                  exact e
                · rw [upd_same]
                  have e := behind_step (m := m) h1 hv
                  rw [← e, List.map_set]
              · rintro σ H3 ⟨⟨y7, rfl⟩, sm3, hc3⟩
                refine ⟨⟨_, _, _, _, rfl⟩, sm3, ?_, ?_⟩
                · rw [take_snoc hd, show y = x + ((y - x).toNat : Int) by omega]
                  exact hc3
                · intro d' hd'
                  rw [take_snoc hd] at hd'
                  rcases List.mem_append.mp hd' with h | h
                  · exact hok d' h
                  · rw [List.mem_singleton.mp h]
                    exact g
          · rw [decide_eq_false (show ¬ y ≤ ((ns.map V.int).length : Int) by rw [List.length_map]; exact h3)]
            exact iteT (bad fun g => h3 g.2.2.1)
        · rw [decide_eq_false h2]
          exact iteF ⟨_, rfl, iteT (bad fun g => h2 g.2.1)⟩
      · rw [decide_eq_false h1]
        exact iteF ⟨_, rfl, iteT (bad fun g => h1 g.1)⟩
    · rintro σ H2 ⟨⟨x4, x5, x6, x7, rfl⟩, sm, hc2, hok⟩
      have ed : ds.take (as.map V.ref).length = ds := List.take_of_length_le (by rw [List.length_map, hD.len]; exact Nat.le_refl _)
      rw [ed] at hc2 hok
      exact ⟨_, rfl, q hok H2 c sm hc hc2⟩
theorem scLDeeds : FnScope ["_law_script", "_law_many", "_law_found", "_law_at", "_law_cell", "_law_first", "_law_end", "_law_steps"] ["_law_script", "_law_many"] (defScope lDeeds) := ⟨rfl, rfl, rfl, by decide +kernel, rfl, by decide +kernel, by decide +kernel⟩
theorem ok_lDeeds (D : Def K mg "_law_deeds" lDeeds ["_law_script", "_law_many"]) (B : Blt mg) : Callee P w K mg base 1 "_law_deeds" ["_law_script", "_law_many"] (spLDeeds K) := by
  refine D.ok scLDeeds (fun vs H Q E h => ?_) (fun f cdv A outer s H vs Q E hr h => ?_)
  · obtain ⟨a, ns, n, rfl, _⟩ := h
    rfl
  · obtain ⟨a, ns, n, rfl, hS, hn0, hn1, hl, hb, q⟩ := h
    refine ⟨_, pss_cons (ps_set (i := 2) scLDeeds.nd rfl (.inl rfl) (pe_lst pa_nil))
      (pss_cons (ps_for PassesOwn.never rfl (pi_enum (by rfl) B.enumerate (pa_cons (pe_ifExp (pt_cmpR op_gt (pv 1) pe_int (nomark _)) (pv 0) (pe_lst pa_nil)) pa_nil)) (pg_tup (by rfl) (pgs_cons (pg_name (i := 3) scLDeeds.nd rfl (.inl rfl)) (pgs_cons (pg_name (i := 4) scLDeeds.nd rfl (.inl rfl)) pgs_nil)))
        (pss_cons (ps_set (i := 5) scLDeeds.nd rfl (.inl rfl) (pe_op op_mod (pe_op op_fdiv (pv 4) pe_int) (pv 1)))
        (pss_cons (ps_set (i := 6) scLDeeds.nd rfl (.inl rfl) (pe_op op_add (pe_op op_add (pv 5) pe_int) (pe_op op_mod (pe_op op_fdiv (pv 4) pe_int) (pe_op op_sub (pv 1) (pv 5)))))
        (pss_cons (ps_set (i := 7) scLDeeds.nd rfl (.inl rfl) (pe_ix ix_tup (pe_tup (pa_cons (pe_op op_add pe_int (pe_op op_mod (pe_op op_fdiv (pv 4) pe_int) pe_int)) (pa_cons (pe_op op_sub (pe_un un_neg pe_int) (pe_op op_mod (pe_op op_fdiv (pv 4) pe_int) pe_int)) (pa_cons (pv 4)
            (pa_cons (pe_op op_sub (pe_un un_neg pe_int) (pe_op op_mulB (pe_op op_add (pv 4) (pv 3)) (pe_op op_add (pv 4) (pv 3)))) pa_nil))))) (pe_op op_mod (pv 4) pe_int) (fun _ _ => rfl)))
        (pss_one (ps_if (pt_cmpR op_ne (pv 7) pe_int (nomark _)) (pss_one (ps_expr (pe_bm PySem.F.plainAttrs_list PySem.F.slot_list_append PySem.F.type_list_append mt_append (pv 2) (pa_cons (pe_tup (pa_cons (pv 5) (pa_cons (pv 6) (pa_cons (pv 7) pa_nil)))) pa_nil)))) pss_nil))))))
      (pss_one (ps_ret (pv 2)))), ?_⟩
    refine ⟨Nat.zero_le _, fun c hc => ?_⟩
    have s1 : Same H (upd H c (.lst [])) := same_new hc
    refine ⟨_, rfl, n, 0, rfl, rfl, _, rfl, ite2 (fun e => ?_) (fun e => ?_)⟩
    · have hn : 0 < n := of_decide_eq_true e
      refine ⟨_, rfl, a, _, rfl, s1.seq hS, for_it (walk_enum (K := K) (a := a) (xs := ns.map V.int))
        (fun i σ H3 => ∃ (x3 x4 x5 x6 x7 : Option V) (as : List Addr) (ds : List Deed), σ = [some (.ref a), some (.int n), some (.ref c), x3, x4, x5, x6, x7] ∧ Same H H3 ∧ H3 c = some (.lst (as.map V.ref)) ∧ DsAt H3 as ds ∧ DeedsOk n ds ∧ ds.length ≤ i)
        ⟨none, none, none, none, none, [], [], rfl, s1, upd_same, DsAt.nil, deedsOk_nil, Nat.zero_le _⟩ (fun i σ H3 _ h => by obtain ⟨_, _, _, _, _, _, _, _, sm, _⟩ := h; exact sm.seq hS) ?_ ?_⟩
      · rintro i y σ H3 H4 hi ⟨x3, x4, x5, x6, x7, as, ds, rfl, sm3, hc3, hD, hok, hlen⟩ ⟨t, u, v, rfl, nt, rfl, hu, hv⟩
        obtain ⟨z, hz, rfl⟩ := map_at hv
        cases hu
        have hi63 := at_lt hz
        have hbz := hb z (List.mem_of_getElem? hz)
        refine ⟨t, _, rfl, .inl (.inl upd_same), rfl, _, _, rfl, _, _, rfl, rfl, ?_⟩
        refine ⟨_, rfl, z, 3, rfl, rfl, ⟨by decide, by decide⟩, _, rfl, _, n, rfl, rfl, hn, ?_⟩
        have f0 := Int.emod_nonneg (z / 3) (show n ≠ 0 by omega)
        have f1 := Int.emod_lt_of_pos (z / 3) hn
        have g0 := Int.emod_nonneg (z / 11) (show n - z / 3 % n ≠ 0 by omega)
        have g1 := Int.emod_lt_of_pos (z / 11) (show 0 < n - z / 3 % n by omega)
        refine ⟨_, rfl, _, 1, rfl, rfl, _, rfl, z, 11, rfl, rfl, ⟨by decide, by decide⟩, _, rfl, _, rfl, n, _, rfl, rfl, _, _, rfl, rfl, (show 0 < n - z / 3 % n by omega), _, _, rfl, rfl, ?_⟩
        refine ⟨_, rfl, z, 5, rfl, rfl, ⟨by decide, by decide⟩, _, 9, rfl, rfl, (by show (0 : Int) < 9; decide), 1, _, rfl, rfl, 1, rfl, _, rfl, z, 5, rfl, rfl, ⟨by decide, by decide⟩, _, 9, rfl, rfl, (by show (0 : Int) < 9; decide), _, _, rfl, rfl, _, rfl, 1, rfl, _, rfl, _, rfl, z, _, rfl, rfl, _, rfl, _, rfl, z, _, rfl, rfl, _, _, rfl, rfl, ?_, _, _, rfl, rfl, (by show 4 ≤ sizeLine; decide), fun T hT => ?_⟩
        · have hsum : Builtin.Int.intBits (z + ((i : Nat) : Int)) ≤ 1048577 := by
            have hi64 : Builtin.Int.intBits ((i : Nat) : Int) ≤ 64 := intBits_cast_le (line_of (by omega))
            exact Nat.le_trans (intBits_add_le hbz hi64) (by decide)
          exact IntMulOk.of_le hsum hsum (by decide)
        · obtain ⟨k, hk, hk4⟩ : ∃ k : Nat, z % 4 = (k : Int) ∧ k < 4 := ⟨(z % 4).toNat, by omega, by omega⟩
          have hlk : k < ([1 + z / 5 % 9, -1 - z / 5 % 9, z, -1 - (z + ((i : Nat) : Int)) * (z + ((i : Nat) : Int))] : List Int).length := hk4
          refine ⟨_, rfl, z, 4, rfl, rfl, (by show (0 : Int) < 4; decide), T, _, _, .int _, rfl, rfl, SqT.of upd_same, at_of hk (at_map (f := V.int) (List.getElem?_eq_getElem hlk)), ?_⟩
          generalize ([1 + z / 5 % 9, -1 - z / 5 % 9, z, -1 - (z + ((i : Nat) : Int)) * (z + ((i : Nat) : Int))] : List Int)[k] = st
          have sT : Same H3 (upd H3 t (.tup [.int ((i : Nat) : Int), .int z])) := same_new nt
          have sT2 := sT.trans (same_new (o := .tup [.int (1 + z / 5 % 9), .int (-1 - z / 5 % 9), .int z, .int (-1 - (z + ((i : Nat) : Int)) * (z + ((i : Nat) : Int)))]) hT)
          have sm4 := sm3.trans sT2
          have hc4 := sT2 _ _ hc3
          refine ⟨_, rfl, rfl, _, rfl, ite2 (fun e2 => ?_) (fun e2 => ?_)⟩
          · refine ⟨_, rfl, .inl ⟨rfl, _, SqL.of hc4⟩, _, rfl, _, rfl, _, rfl, (by show 3 ≤ sizeLine; decide), fun U hU => ?_⟩
            have sU := same_new (o := .tup [.int (z / 3 % n), .int (z / 3 % n + 1 + z / 11 % (n - z / 3 % n)), .int st]) hU
            have sm5 := sm4.trans sU
            have hc5 := sU _ _ hc4
            have hcU : c ≠ U := ne_of_none hc4 hU
            refine ⟨c, _, _, rfl, rfl, hc5, ?_, ?_⟩
            · rw [List.length_map, hD.len]
              exact line_lt (by omega)
            · refine ⟨_, _, _, _, _, as ++ [U], ds ++ [(z / 3 % n, z / 3 % n + 1 + z / 11 % (n - z / 3 % n), st)], rfl, smut sm5 hc, ?_, ?_, ?_, ?_⟩
              · rw [upd_same, List.map_append]; rfl
              · have hD5 : DsAt _ as ds := hD.same (sT2.trans sU)
                have keep : ∀ (b : Addr) (d : Deed), _ = some (HO.tup (tri d)) → _ = some (HO.tup (tri d)) := fun b d (e : (upd _ U (.tup [.int (z / 3 % n), .int (z / 3 % n + 1 + z / 11 % (n - z / 3 % n)), .int st])) b = some (.tup (tri d))) => (upd_ne (H := upd _ U _) (a := c) (o := .lst (as.map V.ref ++ [.ref U])) (ne_of e hc5 (by intro q; cases q))).trans e
                exact DsAt.snoc ⟨hD5.len, fun j b e => let ⟨d, h1, h2⟩ := hD5.at_ j b e; ⟨d, h1, keep b d h2⟩⟩ (keep U _ upd_same)
              · intro d hd
                rcases List.mem_append.mp hd with h | h
                · exact hok d h
                · rw [List.mem_singleton.mp h]
                  refine ⟨f0, by show z / 3 % n < z / 3 % n + 1 + z / 11 % (n - z / 3 % n); omega, by show z / 3 % n + 1 + z / 11 % (n - z / 3 % n) ≤ n; omega, fun z0 => ?_⟩
                  have z0' : st = 0 := z0
                  rw [z0'] at e2
                  exact absurd e2 (by decide)
              · rw [List.length_append]
                show ds.length + 1 ≤ i + 1
                omega
          · exact ⟨_, _, _, _, _, as, ds, rfl, sm4, hc4, hD.same sT2, hok, by omega⟩
      · rintro σ H3 ⟨x3, x4, x5, x6, x7, as, ds, rfl, sm3, hc3, hD, hok, hlen⟩
        rw [List.length_map] at hlen
        exact ⟨_, rfl, q H3 c as ds sm3 hc hc3 hD hok (by omega)⟩
    · refine ⟨Nat.zero_le _, fun d hd => ?_⟩
      refine ⟨d, [], rfl, SqL.of upd_same, for_it (walk_enum (K := K) (a := d) (xs := []))
        (fun i σ H3 => (∃ (x3 x4 x5 x6 x7 : Option V), σ = [some (.ref a), some (.int n), some (.ref c), x3, x4, x5, x6, x7]) ∧ H3 = upd (upd H c (.lst [])) d (.lst []))
        ⟨⟨none, none, none, none, none, rfl⟩, rfl⟩ (fun i σ H3 _ h => by rw [h.2]; exact SqL.of upd_same) (fun i _ _ _ _ hi => absurd hi (Nat.not_lt_zero _)) ?_⟩
      rintro σ H3 ⟨⟨x3, x4, x5, x6, x7, rfl⟩, rfl⟩
      exact ⟨_, rfl, q _ c [] [] (s1.trans (same_new hd)) hc (by rw [upd_ne (ne_of_none upd_same hd), upd_same]; rfl) DsAt.nil deedsOk_nil (Nat.zero_le _)⟩
end
end DR
namespace DR
open PySem PySem.Spec PyProof.Rows L2
def spLaw (K : PySem.W.Frag) : Sp := fun vs H Q _ => ∃ (a : Addr) (ns : List Int), vs = [.ref a] ∧ SqL K H a (ns.map V.int) ∧ ns.length ≤ 63 ∧ (∀ z ∈ ns, Builtin.Int.intBits z ≤ 1048576) ∧ ∀ H', Q (.bl true) H'
abbrev NLaw : List Str := ["_law_script", "_law_size_here", "_law_row_here", "_law_deeds_here", "_law_half", "_law_some", "_law_handed", "_law_found", "_law_back", "_law_first", "_law_end", "_law_steps"]
theorem scLaw : FnScope NLaw ["_law_script"] (defScope sLaw) := ⟨rfl, rfl, rfl, by decide +kernel, rfl, by decide +kernel, by decide +kernel⟩
section
variable {P : Program} {w : World} {K : PySem.W.Frag} {mg : Str → Option Value} {base : Heap}
theorem ok_law (D : Def K mg "law" sLaw ["_law_script"]) (B : Blt mg) (GLS : Callee P w K mg base 1 "_law_size" ["_law_script"] (spLSize K)) (GLR : Callee P w K mg base 1 "_law_row" ["_law_script", "_law_size_here", "_law_by"] (spLRow K))
    (GLN : Callee P w K mg base 1 "_law_numbers" ["_law_found"] (spLNumbers K)) (GLT : Callee P w K mg base 1 "_law_turned" ["_law_size_here", "_law_row_here", "_law_deeds_here"] (spLTurned K)) (GLD : Callee P w K mg base 1 "_law_deeds" ["_law_script", "_law_many"] (spLDeeds K))
    (GT : Callee P w K mg base 4 "turned" ["size", "row", "deeds"] (spTurned K)) : Callee P w K mg base 5 "law" ["_law_script"] (spLaw K) := by
  refine D.ok scLaw (fun vs H Q E h => ?_) (fun f cdv A outer s H vs Q E hr h => ?_)
  · obtain ⟨a, ns, rfl, _⟩ := h
    rfl
  · obtain ⟨a, ns, rfl, hS, hlen, hbits, q⟩ := h
    have hr1 : Room 1 _ := hr.mono (by decide)
    refine ⟨_, pss_cons (ps_set (i := 0) scLaw.nd rfl (.inl rfl) (pe_slice sl_list (pv 0) po_none (po_some pe_int)))
      (pss_cons (ps_set (i := 1) scLaw.nd rfl (.inl rfl) (pe_c GLS hr1 (by rfl) (pa_cons (pv 0) pa_nil)))
      (pss_cons (ps_set (i := 2) scLaw.nd rfl (.inl rfl) (pe_c GLR hr1 (by rfl) (pa_cons (pv 0) (pa_cons (pv 1) (pa_cons pe_int pa_nil)))))
      (pss_cons (ps_set (i := 3) scLaw.nd rfl (.inl rfl) (pe_c GLD hr1 (by rfl) (pa_cons (pe_slice sl_list (pv 0) po_none (po_some pe_int)) (pa_cons (pe_callB call_len_seq (by rfl) B.len PySem.boot_len (pa_cons (pv 2) pa_nil)) pa_nil))))
      (pss_cons (ps_set (i := 4) scLaw.nd rfl (.inl rfl) (pe_op op_fdiv (pe_callB call_len_seq (by rfl) B.len PySem.boot_len (pa_cons (pv 3) pa_nil)) pe_int))
      (pss_cons (ps_for PassesOwn.never rfl (pi_list (pe_lst (pa_cons (pv 3) (pa_cons (pe_slice sl_list (pv 3) po_none (po_some (pv 4))) (pa_cons (pe_lst pa_nil) pa_nil))))) (pg_name (i := 5) scLaw.nd rfl (.inl rfl))
        (pss_cons (ps_set (i := 6) scLaw.nd rfl (.inl rfl) (pe_lst (pa_cons (pe_callTy call_list_of (by rfl) B.list PyProof.Rows.boot_list (pa_cons (pv 2) pa_nil)) (pa_cons (pe_callTy call_list_of (by rfl) B.list PyProof.Rows.boot_list (pa_cons (pv 5) pa_nil)) pa_nil))))
        (pss_cons (ps_set (i := 7) scLaw.nd rfl (.inl rfl) (pe_c GT hr (by rfl) (pa_cons (pv 1) (pa_cons (pe_ix ix_list (pv 6) pe_int (fun _ _ => rfl)) (pa_cons (pe_ix ix_list (pv 6) pe_int (fun _ _ => rfl)) pa_nil)))))
        (pss_cons (ps_if (PW.pt (pw_or (pt_not (pt_val (pe_c GLN hr1 (by rfl) (pa_cons (pv 7) pa_nil)))) (pw_or (pt_cmpR (op_neD hr.units) (pv 7) (pe_c GLT hr1 (by rfl) (pa_cons (pv 1) (pa_cons (pv 2) (pa_cons (pv 5) pa_nil)))) (nomark _))
            (pw_or1 (pt_cmpR (op_neD hr.units) (pv 6) (pe_lst (pa_cons (pv 2) (pa_cons (pv 5) pa_nil))) (nomark _)))))) (pss_one (ps_ret pe_bl)) pss_nil)
        (pss_cons (ps_setLc (i := 8) (own := [("_law_first", 9), ("_law_end", 10), ("_law_steps", 11)]) (g := gTup K 3 (gCons (gName 9) (gCons (gName 10) (gCons (gName 11) gNil)))) (tt := tYes) rfl scLaw.nd rfl rfl (sw_true rfl rfl rfl (by decide +kernel)) (pi_list (pv 5))
            (blkOk_by (N := NLaw) (sc := defScope sLaw) (by decide +kernel))
            (fun _ _ _ _ _ => pg_tup (by rfl) (pgs_cons (pg_name (i := 9) scLaw.nd rfl (.inl rfl)) (pgs_cons (pg_name (i := 10) scLaw.nd rfl (.inl rfl)) (pgs_cons (pg_name (i := 11) scLaw.nd rfl (.inl rfl)) pgs_nil)))) (fun _ _ _ _ _ => pts_nil)
            (fun _ _ _ _ _ => pe_tup (pa_cons (pv 9) (pa_cons (pv 10) (pa_cons (pe_un un_neg (pv 11)) pa_nil)))))
        (pss_cons (ps_if (pt_cmpR (op_neD hr.units) (pe_c GT hr (by rfl) (pa_cons (pv 1) (pa_cons (pv 7) (pa_cons (pv 8) pa_nil)))) (pv 2) (nomark _)) (pss_one (ps_ret pe_bl)) pss_nil)
        (pss_cons (ps_expr (pe_bm PySem.F.plainAttrs_list PySem.F.slot_list_append PySem.F.type_list_append mt_append (pv 7) (pa_cons pe_int pa_nil)))
        (pss_one (ps_if (pt_cmpR (op_neD hr.units) (pe_c GT hr (by rfl) (pa_cons (pv 1) (pa_cons (pe_ix ix_list (pv 6) pe_int (fun _ _ => rfl)) (pa_cons (pe_ix ix_list (pv 6) pe_int (fun _ _ => rfl)) pa_nil)))) (pe_slice sl_list (pv 7) po_none (po_some (pe_un un_neg pe_int))) (nomark _)) (pss_one (ps_ret pe_bl)) pss_nil)))))))))
      (pss_cons (ps_if (pt_cmpR (op_neD hr.units) (pe_c GT hr (by rfl) (pa_cons (pv 1) (pa_cons (pe_c GT hr (by rfl) (pa_cons (pv 1) (pa_cons (pv 2) (pa_cons (pe_slice sl_list (pv 3) (po_some (pv 4)) po_none) pa_nil)))) (pa_cons (pe_slice sl_list (pv 3) po_none (po_some (pv 4))) pa_nil))))
          (pe_c GT hr (by rfl) (pa_cons (pv 1) (pa_cons (pv 2) (pa_cons (pv 3) pa_nil)))) (nomark _)) (pss_one (ps_ret pe_bl)) pss_nil)
      (pss_one (ps_ret (pe_and
        (pe_cmpR (op_eqD hr.units) (pe_c GT hr (by rfl) (pa_cons pe_int (pa_cons (pe_lst (pa_cons pe_int (pa_cons pe_int (pa_cons pe_int pa_nil)))) (pa_cons (pe_lst (pa_cons (pe_tup (pa_cons pe_int (pa_cons pe_int (pa_cons pe_int pa_nil)))) (pa_cons (pe_tup (pa_cons pe_int (pa_cons pe_int (pa_cons (pe_un un_neg pe_int) pa_nil)))) pa_nil))) pa_nil))))
          (pe_lst (pa_cons pe_int (pa_cons pe_int (pa_cons pe_int pa_nil)))) (nomark _))
        (pe_one (pe_cmpR (op_eqD hr.units) (pe_c GT hr (by rfl) (pa_cons pe_int (pa_cons (pe_lst pa_nil) (pa_cons (pe_lst pa_nil) pa_nil)))) (pe_lst pa_nil) (nomark _)))))))))))), ?_⟩
    -- _law_script[:63]
    refine ⟨_, rfl, 63, rfl, a, _, rfl, hS, fun a0 ha0 => ?_⟩
    have e0 : cutV (ns.map V.int) none (some (63 : Int)) = ns.map V.int := by
      rw [show (63 : Int) = ((63 : Nat) : Int) from rfl, cut_nat, List.take_of_length_le (by rw [List.length_map]; exact hlen)]
    rw [e0]
    have s0 : Same H (upd H a0 (.lst (ns.map V.int))) := same_new ha0
    -- size, row
    refine ⟨_, rfl, a0, ns, rfl, SqL.of upd_same, fun m H1 hm2 hmx s1 => ?_⟩
    have ha1 := s1 _ _ upd_same
    refine ⟨_, rfl, _, rfl, a0, ns, m, 0, rfl, SqL.of ha1, hm2, hmx, by decide, by decide, hlen, fun row H2 r s2 hr0 hr2 hR hrl => ?_⟩
    have hrow : row.length ≤ 99 := by rw [hrl]; exact rowLen_le hlen
    have ha2 := s2 _ _ ha1
    -- deeds
    refine ⟨_, rfl, 20, rfl, a0, _, rfl, SqL.of ha2, fun a3 ha3 => ?_⟩
    have s3 : Same H2 (upd H2 a3 (.lst (cutV (ns.map V.int) none (some 20)))) := same_new ha3
    have e3 : cutV (ns.map V.int) none (some (20 : Int)) = (ns.take 20).map V.int := by
      rw [show (20 : Int) = ((20 : Nat) : Int) from rfl, cut_nat, List.map_take]
    refine ⟨_, rfl, r, _, rfl, .inl (SqL.of (s3 _ _ hr2)), a3, ns.take 20, _, rfl, ?_, ?_, ?_, ?_, ?_, fun H4 p as ds s4 hp0 hp4 hD hok hdl => ?_⟩
    · rw [← e3]; exact SqL.of upd_same
    · omega
    · rw [List.length_map]; omega
    · rw [List.length_take]; omega
    · exact fun z hz => hbits z (List.mem_of_mem_take hz)
    rw [List.length_map] at hok
    have hr4 := s4 _ _ (s3 _ _ hr2)
    have hmp : 0 < m := by omega
    have hdl2 : as.length ≤ 63 := by rw [hD.len]; exact hdl
    -- half
    refine ⟨_, rfl, p, _, rfl, .inl (SqL.of hp4), _, 2, rfl, rfl, ⟨by decide, by decide⟩, ?_⟩
    obtain ⟨hf, hhf⟩ : ∃ k : Nat, ((as.map V.ref).length : Int) / 2 = (k : Int) := ⟨(((as.map V.ref).length : Int) / 2).toNat, by omega⟩
    show gName 4 (V.int (((as.map V.ref).length : Int) / 2)) _ _ _
    rw [hhf]
    -- the loop's list
    refine ⟨_, rfl, _, rfl, _, rfl, _, rfl, p, _, rfl, SqL.of hp4, fun p5 hp5 => ⟨Nat.zero_le _, fun p6 hp6 => ⟨(by show 3 ≤ sizeLine; decide), fun L hL => ?_⟩⟩⟩
    rw [cut_nat, ← List.map_take]
    have s5 : Same H4 (upd H4 p5 (.lst ((as.take hf).map V.ref))) := same_new hp5
    rw [cut_nat, ← List.map_take] at hp6 hL
    have s6 : Same (upd H4 p5 (.lst ((as.take hf).map V.ref))) (upd (upd H4 p5 (.lst ((as.take hf).map V.ref))) p6 (.lst [])) := same_new hp6
    have s7 : Same _ (upd (upd (upd H4 p5 (.lst ((as.take hf).map V.ref))) p6 (.lst [])) L (.lst [.ref p, .ref p5, .ref p6])) := same_new hL
    have t7 : Same H4 _ := (s5.trans s6).trans s7
    have hp7 := t7 _ _ hp4
    have hr7 := t7 _ _ hr4
    have hp57 := s7 _ _ (s6 _ _ upd_same)
    have hp67 := s7 _ _ upd_same
    have hL7 : (upd (upd (upd H4 p5 (.lst ((as.take hf).map V.ref))) p6 (.lst [])) L (.lst [.ref p, .ref p5, .ref p6])) L = some (.lst [.ref p, .ref p5, .ref p6]) := upd_same
    have hD7 := hD.same t7
    generalize upd (upd (upd H4 p5 (.lst ((as.take hf).map V.ref))) p6 (.lst [])) L (.lst [.ref p, .ref p5, .ref p6]) = H7 at hp7 hr7 hp57 hp67 hL7 hD7
    have each : ∀ (i : Nat) (x : V), ([V.ref p, V.ref p5, V.ref p6] : List V)[i]? = some x → ∃ (c : Addr) (bs : List Addr) (es : List Deed), x = .ref c ∧ H7 c = some (.lst (bs.map V.ref)) ∧ DsAt H7 bs es ∧ DeedsOk row.length es ∧ es.length ≤ 63 := by
      intro i x hi
      match i, hi with
      | 0, hi => exact ⟨p, as, ds, (Option.some.inj hi).symm, hp7, hD7, hok, hdl⟩
      | 1, hi => exact ⟨p5, as.take hf, ds.take hf, (Option.some.inj hi).symm, hp57, hD7.take hf, hok.take hf, by rw [List.length_take]; omega⟩
      | 2, hi => exact ⟨p6, [], [], (Option.some.inj hi).symm, hp67, DsAt.nil, deedsOk_nil, Nat.zero_le _⟩
      | j + 3, hi => simp at hi
    refine ⟨L, rfl, ⟨_, SqL.of hL7⟩, for_list (K := K) (a := L) (xs := [.ref p, .ref p5, .ref p6])
      (fun i σ H8 => (∃ x5 x6 x7 x8, σ = [some (.ref a0), some (.int m), some (.ref r), some (.ref p), some (.int hf), x5, x6, x7, x8, none, none, none]) ∧ Same H7 H8)
      ⟨⟨none, none, none, none, rfl⟩, Same.refl _⟩ (fun i σ H8 _ h => SqL.of (h.2 _ _ hL7)) ?_ ?_⟩
    · rintro i x σ H8 hi ⟨⟨x5, x6, x7, x8, rfl⟩, s8⟩
      obtain ⟨c, bs, es, rfl, hc7, hE7, hok7, hel⟩ := each i x hi
      have hc8 := s8 _ _ hc7
      have hr8 := s8 _ _ hr7
      have hE8 := hE7.same s8
      have hbl : bs.length ≤ 63 := by rw [hE7.len]; exact hel
      -- _law_handed
      refine ⟨_, rfl, r, _, rfl, .inl (SqL.of hr8), fun r1 hr1f => ?_⟩
      have u1 : Same H8 (upd H8 r1 (.lst (row.map V.int))) := same_new hr1f
      refine ⟨_, rfl, c, _, rfl, .inl (SqL.of (u1 _ _ hc8)), fun c1 hc1f => ⟨(by show 2 ≤ sizeLine; decide), fun hh hhf2 => ?_⟩⟩
      have u2 : Same (upd H8 r1 (.lst (row.map V.int))) (upd (upd H8 r1 (.lst (row.map V.int))) c1 (.lst (bs.map V.ref))) := same_new hc1f
      have u3 : Same _ (upd (upd (upd H8 r1 (.lst (row.map V.int))) c1 (.lst (bs.map V.ref))) hh (.lst [.ref r1, .ref c1])) := same_new hhf2
      have v3 : Same H8 _ := (u1.trans u2).trans u3
      have hr1a := u3 _ _ (u2 _ _ upd_same)
      have hc1a := u3 _ _ upd_same
      have hha : (upd (upd (upd H8 r1 (.lst (row.map V.int))) c1 (.lst (bs.map V.ref))) hh (.lst [.ref r1, .ref c1])) hh = some (.lst [.ref r1, .ref c1]) := upd_same
      generalize upd (upd (upd H8 r1 (.lst (row.map V.int))) c1 (.lst (bs.map V.ref))) hh (.lst [.ref r1, .ref c1]) = H9 at v3 hr1a hc1a hha
      -- _law_found
      refine ⟨_, rfl, _, rfl, hh, _, 0, _, rfl, rfl, SqL.of hha, atI_nat (j := 0) rfl, _, rfl, hh, _, 1, _, rfl, rfl, SqL.of hha, atI_nat (j := 1) rfl, m, r1, c1, row, bs, es, rfl, SqL.of hr1a, SqL.of hc1a, hE8.same v3, hm2, hR, hok7, by omega, fun H10 fo w10 hfo hf10 => ?_⟩
      have v10 := v3.trans w10
      have hfo8 : H8 fo = none := v3.free hfo
      -- the first test
      refine ⟨_, rfl, fo, _, rfl, SqL.of hf10, by rw [behind_length]; omega, fun H11 w11 => ⟨true, rfl, iteF ?_⟩⟩
      have v11 := v10.trans w11
      have hf11 := w11 _ _ hf10
      refine ⟨_, rfl, _, rfl, _, rfl, _, rfl, m, r, c, row, bs, es, rfl, SqL.of (v11 _ _ hr8), SqL.of (v11 _ _ hc8), hE8.same v11, hm2, hR, by omega, fun _ H12 t w12 ht0 ht12 => ?_, fun z => absurd hok7 z⟩
      have v12 := v11.trans w12
      have hf12 := w12 _ _ hf11
      refine ⟨dI _, dI _, dp_lst (SqL.of hf12), dp_lst (SqL.of ht12), sh_dI _, sh_dI _, _, rfl, ?_⟩
      rw [eqv_dI, decide_eq_true rfl]
      refine iteF ?_
      refine ⟨_, rfl, _, rfl, _, rfl, (by show 2 ≤ sizeLine; decide), fun l hl0 => ?_⟩
      have w13 : Same H12 (upd H12 l (.lst [.ref r, .ref c])) := same_new hl0
      have v13 := v12.trans w13
      have w9_13 := ((w10.trans w11).trans w12).trans w13
      have hdp : ∀ (r' c' : Addr) (hx : Addr), (upd H12 l (.lst [.ref r, .ref c])) hx = some (.lst [.ref r', .ref c']) → (upd H12 l (.lst [.ref r, .ref c])) r' = some (.lst (row.map V.int)) → (upd H12 l (.lst [.ref r, .ref c])) c' = some (.lst (bs.map V.ref)) →
          Dp K (upd H12 l (.lst [.ref r, .ref c])) (.ref hx) (.list [dI row, dDs es]) := fun r' c' hx h1 h2 h3 => .lst (SqL.of h1) (.cons (dp_lst (SqL.of h2)) (.cons (dp_ds (SqL.of h3) (hE8.same v13)) .nil))
      have hlay : PyData.canLay0 (.list [dI row, dDs es]) = true := by simp only [PyData.canLay0, PyData.canLayAll0, lay_dI, lay_dDs, Bool.and_self]
      have hsh : SeqAt.shaped (.list [dI row, dDs es]) = true := by
        unfold SeqAt.shaped
        rw [hlay, decide_eq_true]
        · rfl
        · have := dep_dDs es
          simp only [PyData.depth, PyData.depthAll, dep_dI]
          omega
      refine ⟨_, _, hdp r1 c1 hh (w9_13 _ _ hha) (w9_13 _ _ hr1a) (w9_13 _ _ hc1a), hdp r c l upd_same (v13 _ _ hr8) (v13 _ _ hc8), hsh, hsh, _, rfl, ?_⟩
      rw [SeqAt.eqv_refl _ hlay]
      refine iteF ?_
      -- _law_back
      have hf13 := w13 _ _ hf12
      generalize upd H12 l (.lst [.ref r, .ref c]) = H13 at v13 w9_13 hf13
      refine ⟨_, rfl, c, rfl, ⟨_, SqL.of (v13 _ _ hc8)⟩, fun D hD0 => lc_list (K := K) (a := c) (xs := bs.map V.ref)
        (fun i H' => Same H13 H' ∧ ∃ cs, H' D = some (.lst (cs.map V.ref)) ∧ DsAt H' cs (negs (es.take i))) ⟨same_new hD0, [], upd_same, DsAt.nil⟩ (fun i H' _ h => SqL.of (h.1 _ _ (v13 _ _ hc8))) ?_ ?_⟩
      · rintro j y H14 hj ⟨w14, cs, hD14, hN14⟩
        obtain ⟨t', ht', rfl⟩ := ref_at hj
        obtain ⟨⟨d1, d2, d3⟩, hd, hT8⟩ := hE8.at_ j t' ht'
        have hj63 := at_lt ht'
        refine ⟨t', _, rfl, .inl (.inl (w14 _ _ (v13 _ _ hT8))), rfl, _, _, rfl, _, _, rfl, _, _, rfl, rfl, rfl, ?_⟩
        refine ⟨_, rfl, _, rfl, _, rfl, d3, rfl, (by show 3 ≤ sizeLine; decide), fun U hU => ?_⟩
        have wU : Same H14 (upd H14 U (.tup [.int d1, .int d2, .int (-d3)])) := same_new hU
        have hDU := wU _ _ hD14
        refine ⟨_, hDU, ?_, smut (w14.trans wU) hD0, cs ++ [U], ?_, ?_⟩
        · rw [List.length_map, hN14.len, negs_length, List.length_take]
          exact line_lt (by omega)
        · rw [upd_same, List.map_append]; rfl
        · have en : negs (es.take (j + 1)) = negs (es.take j) ++ [(d1, d2, -d3)] := by
            rw [take_snoc hd]
            unfold negs
            rw [List.map_append]; rfl
          rw [en]
          exact DsAt.snoc ((hN14.same wU).upd hDU) (by rw [upd_ne (ne_of upd_same hDU (by intro q; cases q)), upd_same]; rfl)
      · rintro H14 ⟨w14, cs, hD14, hN14⟩
        rw [List.take_of_length_le (show es.length ≤ (bs.map V.ref).length by rw [List.length_map, hE8.len]; exact Nat.le_refl _)] at hN14
        have v14 := v13.trans w14
        have hf14 := w14 _ _ hf13
        -- the deeds back again
        refine ⟨_, rfl, _, rfl, _, rfl, m, fo, D, behind m row es, cs, negs es, rfl, SqL.of hf14, SqL.of hD14, hN14, hm2, behind_ok hmp _ _, by rw [behind_length]; exact negs_ok hok7, by rw [behind_length]; omega, fun H15 bk w15 hbk0 hbk15 => ?_⟩
        rw [behind_back hR] at hbk15
        have v15 := v14.trans w15
        refine ⟨_, rfl, dI row, dI row, dp_lst (SqL.of hbk15), dp_lst (SqL.of (v15 _ _ hr8)), sh_dI _, sh_dI _, _, rfl, ?_⟩
        rw [eqv_dI, decide_eq_true rfl]
        refine iteF ?_
        -- append
        have hf15 := w15 _ _ hf14
        refine ⟨_, rfl, .inl ⟨rfl, _, SqL.of hf15⟩, fo, _, _, rfl, rfl, hf15, ?_, ?_⟩
        · rw [List.length_map, behind_length]
          exact line_lt (by omega)
        have w9_15 := (w9_13.trans w14).trans w15
        have nf : ∀ {b : Addr} {o : HO}, H9 b = some o → (upd H15 fo (.lst ((behind m row es).map V.int ++ [.int 0]))) b = some o := fun {b o} e => by rw [upd_ne (ne_of_none e hfo)]; exact w9_15 _ _ e
        have v16 : Same H8 (upd H15 fo (.lst ((behind m row es).map V.int ++ [.int 0]))) := smut v15 hfo8
        have hf16 : (upd H15 fo (.lst ((behind m row es).map V.int ++ [.int 0]))) fo = some (.lst ((behind m row es).map V.int ++ [.int 0])) := upd_same
        have a16 := nf hha
        have b16 := nf hr1a
        have c16 := nf hc1a
        generalize upd H15 fo (.lst ((behind m row es).map V.int ++ [.int 0])) = H16 at v16 hf16 a16 b16 c16
        refine ⟨_, rfl, _, rfl, hh, _, 0, _, rfl, rfl, SqL.of a16, atI_nat (j := 0) rfl, _, rfl, hh, _, 1, _, rfl, rfl, SqL.of a16, atI_nat (j := 1) rfl, m, r1, c1, row, bs, es, rfl, SqL.of b16, SqL.of c16, hE8.same v16, hm2, hR, hok7, by omega, fun H17 g w17 hg0 hg17 => ?_⟩
        refine ⟨_, rfl, 1, rfl, _, rfl, fo, _, rfl, SqL.of (w17 _ _ hf16), fun z hz0 => ?_⟩
        have w18 : Same H17 (upd H17 z (.lst (cutV ((behind m row es).map V.int ++ [.int 0]) none (some (-1))))) := same_new hz0
        refine ⟨dI (behind m row es), dI (behind m row es), dp_lst (SqL.of (w18 _ _ hg17)), dp_lst (SqL.of ?_), sh_dI _, sh_dI _, _, rfl, ?_⟩
        · rw [upd_same, cut_last]
        rw [eqv_dI, decide_eq_true rfl]
        exact iteF ⟨⟨_, _, _, _, rfl⟩, ((s8.trans v16).trans w17).trans w18⟩
    · rintro σ H8 ⟨⟨x5, x6, x7, x8, rfl⟩, s8⟩
      have hp8 := s8 _ _ hp7
      have hr8 := s8 _ _ hr7
      have hD8 := hD7.same s8
      -- by halves
      refine ⟨_, rfl, _, rfl, _, rfl, _, rfl, _, rfl, _, rfl, p, _, rfl, SqL.of hp8, fun x hx0 => ?_⟩
      have w1 : Same H8 (upd H8 x (.lst (cutV (as.map V.ref) (some (hf : Int)) none))) := same_new hx0
      have hx1 : (upd H8 x (.lst (cutV (as.map V.ref) (some (hf : Int)) none))) x = some (.lst ((as.drop hf).map V.ref)) := by rw [upd_same, cut_from, List.map_drop]
      refine ⟨m, r, x, row, as.drop hf, ds.drop hf, rfl, SqL.of (w1 _ _ hr8), SqL.of hx1, (hD8.same w1).drop hf, hm2, hR, hok.drop hf, by omega, fun H9 b1 w2 hb0 hb9 => ?_⟩
      have v2 := w1.trans w2
      refine ⟨_, rfl, _, rfl, _, rfl, p, _, rfl, SqL.of (v2 _ _ hp8), fun x2 hx20 => ?_⟩
      have w3 : Same H9 (upd H9 x2 (.lst (cutV (as.map V.ref) none (some (hf : Int))))) := same_new hx20
      have hx3 : (upd H9 x2 (.lst (cutV (as.map V.ref) none (some (hf : Int))))) x2 = some (.lst ((as.take hf).map V.ref)) := by rw [upd_same, cut_nat, List.map_take]
      have v3 := v2.trans w3
      refine ⟨m, b1, x2, behind m row (ds.drop hf), as.take hf, ds.take hf, rfl, SqL.of (w3 _ _ hb9), SqL.of hx3, (hD8.same v3).take hf, hm2, behind_ok hmp _ _, by rw [behind_length]; exact hok.take hf, by rw [behind_length]; omega, fun H10 b2 w4 hb20 hb210 => ?_⟩
      have v4 := v3.trans w4
      refine ⟨_, rfl, _, rfl, _, rfl, m, r, p, row, as, ds, rfl, SqL.of (v4 _ _ hr8), SqL.of (v4 _ _ hp8), hD8.same v4, hm2, hR, hok, by omega, fun H11 b3 w5 hb30 hb311 => ?_⟩
      rw [behind_behind, behind_comm, List.take_append_drop] at hb210
      refine ⟨dI _, dI _, dp_lst (SqL.of (w5 _ _ hb210)), dp_lst (SqL.of hb311), sh_dI _, sh_dI _, _, rfl, ?_⟩
      rw [eqv_dI, decide_eq_true rfl]
      refine iteF ?_
      -- the written ones
      refine ⟨by show 3 ≤ sizeLine; decide, fun y1 hy1 => ⟨by show 3 ≤ sizeLine; decide, fun y2 hy2 => ⟨14, rfl, by show 3 ≤ sizeLine; decide, fun y3 hy3 => ⟨by show 2 ≤ sizeLine; decide, fun y4 hy4 => ?_⟩⟩⟩⟩
      have z1 : Same _ (upd (upd H11 y1 (.lst [.int 9, .int 0, .int 5])) y2 (.tup [.int 0, .int 2, .int 3])) := same_new hy2
      have z2 : Same _ (upd (upd (upd H11 y1 (.lst [.int 9, .int 0, .int 5])) y2 (.tup [.int 0, .int 2, .int 3])) y3 (.tup [.int 1, .int 3, .int (-14)])) := same_new hy3
      have z3 : Same _ (upd (upd (upd (upd H11 y1 (.lst [.int 9, .int 0, .int 5])) y2 (.tup [.int 0, .int 2, .int 3])) y3 (.tup [.int 1, .int 3, .int (-14)])) y4 (.lst [.ref y2, .ref y3])) := same_new hy4
      have g1 := z3 _ _ (z2 _ _ (z1 _ _ (upd_same (H := H11) (a := y1))))
      have g2 := z3 _ _ (z2 _ _ upd_same)
      have g3 := z3 _ _ upd_same
      refine ⟨10, y1, y4, [9, 0, 5], [y2, y3], [(0, 2, 3), (1, 3, -14)], rfl, SqL.of g1, SqL.of upd_same, (DsAt.one g2).append (DsAt.one g3), by decide, ?_, ?_, by decide, fun H12 b4 w6 hb40 hb412 => ?_⟩
      · intro x hx
        simp only [List.mem_cons, List.not_mem_nil, or_false] at hx
        omega
      · intro d hd
        simp only [List.mem_cons, List.not_mem_nil, or_false] at hd
        rcases hd with rfl | rfl <;> exact ⟨by decide, by decide, by decide, by decide⟩
      refine ⟨by show 3 ≤ sizeLine; decide, fun y5 hy5 => ?_⟩
      have z4 : Same H12 (upd H12 y5 (.lst [.int 2, .int 9, .int 1])) := same_new hy5
      refine ⟨dI _, dI [2, 9, 1], dp_lst (SqL.of (z4 _ _ hb412)), dp_lst (ns := [2, 9, 1]) (SqL.of upd_same), sh_dI _, sh_dI _, _, rfl, ?_⟩
      rw [eqv_dI, decide_eq_true (by decide)]
      refine iteT ⟨Nat.zero_le _, fun y6 hy6 => ⟨Nat.zero_le _, fun y7 hy7 => ?_⟩⟩
      have z5 : Same _ (upd (upd (upd H12 y5 (.lst [.int 2, .int 9, .int 1])) y6 (.lst [])) y7 (.lst [])) := same_new hy7
      refine ⟨2, y6, y7, [], [], [], rfl, SqL.of (z5 _ _ upd_same), SqL.of upd_same, DsAt.nil, by decide, rowOk_nil, deedsOk_nil, by decide, fun H13 b5 w7 hb50 hb513 => ?_⟩
      refine ⟨Nat.zero_le _, fun y8 hy8 => ?_⟩
      have z6 : Same H13 (upd H13 y8 (.lst [])) := same_new hy8
      refine ⟨dI _, dI [], dp_lst (SqL.of (z6 _ _ hb513)), dp_lst (ns := []) (SqL.of upd_same), sh_dI _, sh_dI _, ?_⟩
      rw [eqv_dI, decide_eq_true (by decide)]
      exact q _
end
end DR
namespace DR
open PySem PySem.Spec PyProof.Rows L2
theorem all_mk {l : PySem.W.OpenLaw} {w : World} {K : PySem.W.Frag} {h : Heap} {mg : Str → Option Value} {fa : Addr} (X : K.In h) (G : h.Ns mainGlobals mg) (hfa : mg "law" = some (.ref fa))
    {f1 f2 f3 f4 f5 f6 f7 f8 f9 f10 f11 f12 : Addr}
    {od1 an1 od2 an2 od3 an3 od4 an4 od5 an5 od6 an6 od7 an7 od8 an8 od9 an9 od10 an10 od11 an11 od12 an12 : Option Addr} {sl1 sl2 sl3 sl4 sl5 sl6 sl7 sl8 sl9 sl10 sl11 sl12 : Array (Option Value)} {oc1 kV1 dc1 pm1 cd1 ct1 oc2 kV2 dc2 pm2 cd2 ct2 oc3 kV3 dc3 pm3 cd3 ct3 oc4 kV4 dc4 pm4 cd4 ct4 oc5 kV5 dc5 pm5 cd5 ct5 oc6 kV6 dc6 pm6 cd6 ct6 oc7 kV7 dc7 pm7 cd7 ct7 oc8 kV8 dc8 pm8 cd8 ct8 oc9 kV9 dc9 pm9 cd9 ct9 oc10 kV10 dc10 pm10 cd10 ct10 oc11 kV11 dc11 pm11 cd11 ct11 oc12 kV12 dc12 pm12 cd12 ct12 : Value}
    (a1 : PySem.W.nsIn K mainGlobals "is_number" = some (some (.ref f1))) (l1 : K.lookup f1 = some ⟨oc1, od1, .func (PySem.W.fnOf "is_number" "is_number" (defArgs sNum) (defBody sNum) (defScope sNum) .none kV1 dc1 pm1 an1 cd1 ct1), sl1⟩) (c1 : PySem.W.codeIn K cd1 "is_number" = true) (k1 : PySem.W.keepIn K (.ref f1) = true)
    (a2 : PySem.W.nsIn K mainGlobals "check_size" = some (some (.ref f2))) (l2 : K.lookup f2 = some ⟨oc2, od2, .func (PySem.W.fnOf "check_size" "check_size" (defArgs sSize) (defBody sSize) (defScope sSize) .none kV2 dc2 pm2 an2 cd2 ct2), sl2⟩) (c2 : PySem.W.codeIn K cd2 "check_size" = true) (k2 : PySem.W.keepIn K (.ref f2) = true)
    (a3 : PySem.W.nsIn K mainGlobals "check_row" = some (some (.ref f3))) (l3 : K.lookup f3 = some ⟨oc3, od3, .func (PySem.W.fnOf "check_row" "check_row" (defArgs sRow) (defBody sRow) (defScope sRow) .none kV3 dc3 pm3 an3 cd3 ct3), sl3⟩) (c3 : PySem.W.codeIn K cd3 "check_row" = true) (k3 : PySem.W.keepIn K (.ref f3) = true)
    (a4 : PySem.W.nsIn K mainGlobals "is_deed" = some (some (.ref f4))) (l4 : K.lookup f4 = some ⟨oc4, od4, .func (PySem.W.fnOf "is_deed" "is_deed" (defArgs sDeed) (defBody sDeed) (defScope sDeed) .none kV4 dc4 pm4 an4 cd4 ct4), sl4⟩) (c4 : PySem.W.codeIn K cd4 "is_deed" = true) (k4 : PySem.W.keepIn K (.ref f4) = true)
    (a5 : PySem.W.nsIn K mainGlobals "check_deeds" = some (some (.ref f5))) (l5 : K.lookup f5 = some ⟨oc5, od5, .func (PySem.W.fnOf "check_deeds" "check_deeds" (defArgs sDeeds) (defBody sDeeds) (defScope sDeeds) .none kV5 dc5 pm5 an5 cd5 ct5), sl5⟩) (c5 : PySem.W.codeIn K cd5 "check_deeds" = true) (k5 : PySem.W.keepIn K (.ref f5) = true)
    (a6 : PySem.W.nsIn K mainGlobals "turned" = some (some (.ref f6))) (l6 : K.lookup f6 = some ⟨oc6, od6, .func (PySem.W.fnOf "turned" "turned" (defArgs sTurned) (defBody sTurned) (defScope sTurned) .none kV6 dc6 pm6 an6 cd6 ct6), sl6⟩) (c6 : PySem.W.codeIn K cd6 "turned" = true) (k6 : PySem.W.keepIn K (.ref f6) = true)
    (a7 : PySem.W.nsIn K mainGlobals "_law_size" = some (some (.ref f7))) (l7 : K.lookup f7 = some ⟨oc7, od7, .func (PySem.W.fnOf "_law_size" "_law_size" (defArgs lSize) (defBody lSize) (defScope lSize) .none kV7 dc7 pm7 an7 cd7 ct7), sl7⟩) (c7 : PySem.W.codeIn K cd7 "_law_size" = true) (k7 : PySem.W.keepIn K (.ref f7) = true)
    (a8 : PySem.W.nsIn K mainGlobals "_law_row" = some (some (.ref f8))) (l8 : K.lookup f8 = some ⟨oc8, od8, .func (PySem.W.fnOf "_law_row" "_law_row" (defArgs lRow) (defBody lRow) (defScope lRow) .none kV8 dc8 pm8 an8 cd8 ct8), sl8⟩) (c8 : PySem.W.codeIn K cd8 "_law_row" = true) (k8 : PySem.W.keepIn K (.ref f8) = true)
    (a9 : PySem.W.nsIn K mainGlobals "_law_numbers" = some (some (.ref f9))) (l9 : K.lookup f9 = some ⟨oc9, od9, .func (PySem.W.fnOf "_law_numbers" "_law_numbers" (defArgs lNumbers) (defBody lNumbers) (defScope lNumbers) .none kV9 dc9 pm9 an9 cd9 ct9), sl9⟩) (c9 : PySem.W.codeIn K cd9 "_law_numbers" = true) (k9 : PySem.W.keepIn K (.ref f9) = true)
    (a10 : PySem.W.nsIn K mainGlobals "_law_turned" = some (some (.ref f10))) (l10 : K.lookup f10 = some ⟨oc10, od10, .func (PySem.W.fnOf "_law_turned" "_law_turned" (defArgs lTurned) (defBody lTurned) (defScope lTurned) .none kV10 dc10 pm10 an10 cd10 ct10), sl10⟩) (c10 : PySem.W.codeIn K cd10 "_law_turned" = true) (k10 : PySem.W.keepIn K (.ref f10) = true)
    (a11 : PySem.W.nsIn K mainGlobals "_law_deeds" = some (some (.ref f11))) (l11 : K.lookup f11 = some ⟨oc11, od11, .func (PySem.W.fnOf "_law_deeds" "_law_deeds" (defArgs lDeeds) (defBody lDeeds) (defScope lDeeds) .none kV11 dc11 pm11 an11 cd11 ct11), sl11⟩) (c11 : PySem.W.codeIn K cd11 "_law_deeds" = true) (k11 : PySem.W.keepIn K (.ref f11) = true)
    (a12 : PySem.W.nsIn K mainGlobals "law" = some (some (.ref f12))) (l12 : K.lookup f12 = some ⟨oc12, od12, .func (PySem.W.fnOf "law" "law" (defArgs sLaw) (defBody sLaw) (defScope sLaw) .none kV12 dc12 pm12 an12 cd12 ct12), sl12⟩) (c12 : PySem.W.codeIn K cd12 "law" = true) (k12 : PySem.W.keepIn K (.ref f12) = true)
    (z1 : PySem.W.nsIn K mainGlobals "isinstance" = some none)
    (z2 : PySem.W.nsIn K mainGlobals "int" = some none)
    (z3 : PySem.W.nsIn K mainGlobals "bool" = some none)
    (z4 : PySem.W.nsIn K mainGlobals "list" = some none)
    (z5 : PySem.W.nsIn K mainGlobals "tuple" = some none)
    (z6 : PySem.W.nsIn K mainGlobals "len" = some none)
    (z7 : PySem.W.nsIn K mainGlobals "enumerate" = some none)
    (z8 : PySem.W.nsIn K mainGlobals "sum" = some none)
    (z9 : PySem.W.nsIn K mainGlobals "range" = some none)
    (z10 : PySem.W.nsIn K mainGlobals "all" = some none)
    : ∃ fd : FuncData, (∀ (s : Shared) (v : Value), BindsTo s fd ⟨[v], []⟩ [("_law_script", v)]) ∧ ∀ base : Heap, K.In base → base.Ns mainGlobals mg → FnOk l.prog w K mg base CX0 5 fa fd ["_law_script"] (spLaw K) := by
  have e := hfa.symm.trans (PySem.W.mg_of X G a12)
  cases e
  have B : Blt mg := ⟨PySem.W.mg_none_of X G z1, PySem.W.mg_none_of X G z2, PySem.W.mg_none_of X G z3, PySem.W.mg_none_of X G z4, PySem.W.mg_none_of X G z5, PySem.W.mg_none_of X G z6, PySem.W.mg_none_of X G z7, PySem.W.mg_none_of X G z8, PySem.W.mg_none_of X G z9, PySem.W.mg_none_of X G z10⟩
  have D1 : Def K mg "is_number" sNum ["thing"] := def_mk X G a1 l1 c1 k1 fun _ _ _ _ _ _ us hl => match us, hl with | [_], _ => rfl
  have D2 : Def K mg "check_size" sSize ["size"] := def_mk X G a2 l2 c2 k2 fun _ _ _ _ _ _ us hl => match us, hl with | [_], _ => rfl
  have D3 : Def K mg "check_row" sRow ["size", "row"] := def_mk X G a3 l3 c3 k3 fun _ _ _ _ _ _ us hl => match us, hl with | [_, _], _ => rfl
  have D4 : Def K mg "is_deed" sDeed ["dials", "thing"] := def_mk X G a4 l4 c4 k4 fun _ _ _ _ _ _ us hl => match us, hl with | [_, _], _ => rfl
  have D5 : Def K mg "check_deeds" sDeeds ["dials", "deeds"] := def_mk X G a5 l5 c5 k5 fun _ _ _ _ _ _ us hl => match us, hl with | [_, _], _ => rfl
  have D6 : Def K mg "turned" sTurned ["size", "row", "deeds"] := def_mk X G a6 l6 c6 k6 fun _ _ _ _ _ _ us hl => match us, hl with | [_, _, _], _ => rfl
  have D7 : Def K mg "_law_size" lSize ["_law_script"] := def_mk X G a7 l7 c7 k7 fun _ _ _ _ _ _ us hl => match us, hl with | [_], _ => rfl
  have D8 : Def K mg "_law_row" lRow ["_law_script", "_law_size_here", "_law_by"] := def_mk X G a8 l8 c8 k8 fun _ _ _ _ _ _ us hl => match us, hl with | [_, _, _], _ => rfl
  have D9 : Def K mg "_law_numbers" lNumbers ["_law_found"] := def_mk X G a9 l9 c9 k9 fun _ _ _ _ _ _ us hl => match us, hl with | [_], _ => rfl
  have D10 : Def K mg "_law_turned" lTurned ["_law_size_here", "_law_row_here", "_law_deeds_here"] := def_mk X G a10 l10 c10 k10 fun _ _ _ _ _ _ us hl => match us, hl with | [_, _, _], _ => rfl
  have D11 : Def K mg "_law_deeds" lDeeds ["_law_script", "_law_many"] := def_mk X G a11 l11 c11 k11 fun _ _ _ _ _ _ us hl => match us, hl with | [_, _], _ => rfl
  have D12 : Def K mg "law" sLaw ["_law_script"] := def_mk X G a12 l12 c12 k12 fun _ _ _ _ _ _ us hl => match us, hl with | [_], _ => rfl
  refine ⟨PySem.W.fnOf "law" "law" (defArgs sLaw) (defBody sLaw) (defScope sLaw) .none kV12 dc12 pm12 an12 cd12 ct12, fun s v => .of_eq rfl, fun base _ _ => ?_⟩
  have GN := ok_num (P := l.prog) (w := w) (base := base) D1 B
  have GT := ok_turned D6 B (ok_size D2 GN) (ok_row D3 B GN) (ok_deeds D5 B (ok_deed D4 B GN))
  exact (ok_law D12 B (ok_lSize D7 B) (ok_lRow D8 B) (ok_lNumbers D9 B) (ok_lTurned D10 B) (ok_lDeeds D11 B) GT).at (PySem.W.mg_of X G a12) l12
end DR
open PySem PySem.W PyProof.Rows
set_option maxRecDepth 100000 in
set_option maxHeartbeats 0 in
theorem PySem.Challenge.cw_dialrow_k01_whole_turned_holds : PySem.Challenge.rw_dialrow_k01_whole_turned.Holds := by
  w_on; o_law; k_head; (case hw => w_witness2)
  k_fill
  refine L2.walk_ofB (l := PySem.Challenge.rw_dialrow_k01_whole_turned) (n := 63) (k := 5) (x := "_law_script") (CX := fun _ => L2.CX0) (sp := fun w => DR.spLaw _) rfl (by decide) rfl ⟨rfl, by decide, by decide⟩ (fun w h Y => PySem.W.kIn_of Y) ?F (fun _ _ a ns hl hb _ hS => ⟨a, ns, rfl, hS, hl, hb, fun _ => rfl⟩) (fun _ _ _ _ _ h => h)
  case F =>
    intro w mg fa h KX G hmg
    refine' DR.all_mk KX G hmg ?a1 ?l1 ?c1 ?k1 ?a2 ?l2 ?c2 ?k2 ?a3 ?l3 ?c3 ?k3 ?a4 ?l4 ?c4 ?k4 ?a5 ?l5 ?c5 ?k5 ?a6 ?l6 ?c6 ?k6 ?a7 ?l7 ?c7 ?k7 ?a8 ?l8 ?c8 ?k8 ?a9 ?l9 ?c9 ?k9 ?a10 ?l10 ?c10 ?k10 ?a11 ?l11 ?c11 ?k11 ?a12 ?l12 ?c12 ?k12 ?z1 ?z2 ?z3 ?z4 ?z5 ?z6 ?z7 ?z8 ?z9 ?z10
    (case a1 => k_is)
    (case l1 => k_is)
    (case c1 => k_is)
    (case k1 => k_is)
    (case a2 => k_is)
    (case l2 => k_is)
    (case c2 => k_is)
    (case k2 => k_is)
    (case a3 => k_is)
    (case l3 => k_is)
    (case c3 => k_is)
    (case k3 => k_is)
    (case a4 => k_is)
    (case l4 => k_is)
    (case c4 => k_is)
    (case k4 => k_is)
    (case a5 => k_is)
    (case l5 => k_is)
    (case c5 => k_is)
    (case k5 => k_is)
    (case a6 => k_is)
    (case l6 => k_is)
    (case c6 => k_is)
    (case k6 => k_is)
    (case a7 => k_is)
    (case l7 => k_is)
    (case c7 => k_is)
    (case k7 => k_is)
    (case a8 => k_is)
    (case l8 => k_is)
    (case c8 => k_is)
    (case k8 => k_is)
    (case a9 => k_is)
    (case l9 => k_is)
    (case c9 => k_is)
    (case k9 => k_is)
    (case a10 => k_is)
    (case l10 => k_is)
    (case c10 => k_is)
    (case k10 => k_is)
    (case a11 => k_is)
    (case l11 => k_is)
    (case c11 => k_is)
    (case k11 => k_is)
    (case a12 => k_is)
    (case l12 => k_is)
    (case c12 => k_is)
    (case k12 => k_is)
    (case z1 => k_is)
    (case z2 => k_is)
    (case z3 => k_is)
    (case z4 => k_is)
    (case z5 => k_is)
    (case z6 => k_is)
    (case z7 => k_is)
    (case z8 => k_is)
    (case z9 => k_is)
    (case z10 => k_is)
#print axioms PySem.Challenge.cw_dialrow_k01_whole_turned_holds
